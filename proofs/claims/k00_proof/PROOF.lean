import PyProof.Rows.All
import Wide.All
import OpenK.AllK
import Wide.FinOn
import KE.KExcSuper
import HandS.Base
import HandS.Call
import HandS.List
import HandS.Ends
import HandS.Exc
import HandS.ExcOwn
import HandS.ExcInit
import HandS.Words
import HandS.Nested
import HandS.TryMany
import KE.GoesMore
import KE.GoesEnum
import HandS.Iter
import HandS.Sort
import HandS.SortInts
import HandS.TupMul
import HandS.TupAny
import PyProof.ListMulRoad
import HandS.CallSlots
import KE.KDictZip
import KE.KDictItemsList
import HandS.ListItems
import HandS.MapObj
import HandS.Gcd
import KE.KMathGC
import KE.GoesZip
import HandS.Zip0
import KE.DataMinMax
import HandS.SortKw
import PyProof.EqAt
import PyProof.EqKinds
import PyProof.TupleCall
import HandS.Comp
import HandS.Dict
import HandS.Set
import HandS.SetKeys
import HandS.SetBool
import HandS.SetFor
import HandS.WordsExc
import PyProof.ReprRoads
import HandS.ReplaceLit
import HandS.ReplaceList
import HandS.ReplaceDef
import HandS.FStr
import HandS.Text
import HandS.StrSplit
import HandS.Deep
import PyProof.StrOps2
import PyProof.NeData
import PyProof.Rows.StrSplitCount
import HandS.ForMost
import HandS.ForExc
import HandS.IsInst
import HandS.Conv
import HandS.Zip
import HandS.DictComp
import HandS.SortRule
import HandS.ExcField
import HandS.TupLe
import HandS.TryOnly
import HandS.Defaults
import HandS.More
import HandS.Walk
import HandS.ExcIs
import PyProof.P3Eq
import PyProof.ReprBulk
import PySem.Challenge.RW_guardrungs_k00_formulas
set_option Elab.async false
set_option linter.all false
set_option maxRecDepth 100000
set_option maxHeartbeats 4000000
namespace GX
open PySem PySem.Spec PyProof.Rows L2 NdefX
/-- what the written part says of an own exception class whose __init__ goes over super -/
structure Sup (P : Program) (K : PySem.W.Frag) (mg : Str → Option Value) (C fI : Addr) (qual : Str) (st : Stmt) (fd : FuncData) : Prop where
  O : OexC K C
  iC : PySem.W.findIn K (.ref C) "__init__" = some (some (.ref fI))
  tI : PySem.W.typeIn K (.ref fI) = some (.type "function")
  ex : ∃ (oc : Value) (od : Option Addr) (kV doc pm ct : Value) (an : Option Addr) (osl : Array (Option Value)) (cc cda : Addr) (ccl cl : Value) (cdd cld : Option Addr) (vs : Array Value) (ccs csl : Array (Option Value)) (file : Str) (tf : Tok),
    fd = PySem.W.fnX "__init__" qual (defArgs st) (defBody st) (defScope st) [("__class__", cc)] .none kV doc pm an (.ref cda) ct ∧
    K.lookup fI = some ⟨oc, od, .func fd, osl⟩ ∧ PySem.W.codeIn K (.ref cda) qual = true ∧ K.lookup cda = some ⟨ccl, cdd, .fields vs, ccs⟩ ∧ vs[2]? = some (.str file tf) ∧ ((P.main.file : Str) == file) = true ∧
    K.lookup cc = some ⟨cl, cld, .cell (some (.ref C)), csl⟩
  sup : PySem.W.ks_superIn K C C "__init__" = some (some (.builtin "ValueError.__init__"))
  opq : PySem.W.nsIn K cStatics "thirdparty.any" = some none
  sVE : PySem.W.subIn K (.ref C) (.type "ValueError") = some true
  mro : PySem.W.mroIn K C (.ref C) = some true
  sG : mg "super" = none
  top : (P.main.scope.names.lookup ("super" : Str)).isSome = false
section
variable {X : Cx} {pins : List (Addr × Obj)} {σ : L2.St} {H : Hp} {s : Shared} {C a u : Addr}
/-- the built-in __init__ bound to the exception, called -/
theorem sup_call {A : Around} {E : Value → Shared → Prop} {us : List Value} {Q : Value → Shared → Prop} (T : OexC X.K C) (I : Inv X pins σ H s) (e : H a = some (exo a C none))
    (hu : s.heap.get? u = some (PySem.W.kxs_mw "ValueError.__init__" a)) (hl : us.length ≤ sizeLine) (h : ∀ s', Inv X pins σ H s' → Q .none s') : wpAny (model X.prog X.w) A (call (.ref u) us) Q E s := by
  obtain ⟨nm, q, N, bs, bm, sn, sub, ab, col, dd, k0, k1, k2, k3, k5, hC, hbm⟩ := T.cls
  have hC' := I.kIn _ _ hC
  obtain ⟨t1, ho⟩ := exo_at I.hok e
  obtain ⟨hp, g, d, t, os⟩ := s
  refine wpAny_call (codeAny_of_tree ?_)
  show wpAny _ A.in1 (callAny (.ref u) ⟨us, []⟩) _ _ _
  simp only [callAny]
  refine wpAny_bind (wpAny_load hu ?_)
  simp only [PySem.W.kxs_mw, show (Value.type "method-wrapper" == Value.type "method" || Value.type "method-wrapper" == Value.type "builtin_function_or_method" || Value.type "method-wrapper" == Value.type "method-wrapper") = true by decide, if_true]
  refine PySem.W.KFB.if_so (by decide) ?_
  refine wpAny_bind (PySem.W.check_bound_init F.excBase_ValueError.toExcCallFacts hC' ho rfl ?_)
  refine wpAny_bind (wpAny_pure (wpAny_pure ?_))
  refine ⟨plainId_quiet F.excBase_ValueError.init.plain _, codeAny_builtin F.excBase_ValueError.initEntry ?_⟩
  refine PySem.W.exc_init_tree (cls := .ref C) (t0 := t1) (dv := none) (c2 := .none) (c3 := .none) (b4 := .bool false) ho hl fun h' k hx _ => ?_
  have J := I.write (t' := t) (x := a) (e := a) (o := exo a C none) (by rw [e]; exact True.intro) (.inl rfl) k ⟨_, hx⟩ (exo_ok hx)
  have eu : upd H a (exo a C none) = H := by
    funext b
    by_cases hb : b = a
    · rw [hb, upd_same, e]
    · rw [upd_ne hb]
  rw [eu] at J
  exact h _ J
/-- super().__init__(e, ..) as a statement of an exception's own __init__ -/
theorem sup_stmt {body : List Stmt} {e : Expr} {es : List Expr} {ta : TA} {p0 p1 p2 p3 p4 : Pos} {pl : Sem Bool} {nx : Hp → Prop} {fI cda cc : Addr} {fd : FuncData} {ar : Arg} {oc ccl cl : Value} {od cdd cld : Option Addr} {osl ccs csl : Array (Option Value)} {vs : Array Value} {file : Str} {tf : Tok}
    (O : OexC X.K C) (hfu : X.env.func = some fI) (lkf : X.K.lookup fI = some ⟨oc, od, .func fd, osl⟩) (hp : (fd.params.posonlyargs ++ fd.params.args).head? = some ar) (hco : X.env.code = .ref cda) (lkc : X.K.lookup cda = some ⟨ccl, cdd, .fields vs, ccs⟩)
    (hvs : vs[2]? = some (.str file tf)) (hfile : ((X.prog.main.file : Str) == file) = true) (hcel : X.env.cells.lookup ("__class__" : Str) = some cc) (lkcc : X.K.lookup cc = some ⟨cl, cld, .cell (some (.ref C)), csl⟩)
    (hks : X.env.kindOf "super" = some .globalImplicit) (hkc : X.env.kindOf "__class__" = some .free) (hk0 : X.env.kindOf ar.arg = some .local) (hN0 : X.N[0]? = some ar.arg)
    (sup : PySem.W.ks_superIn X.K C C "__init__" = some (some (.builtin "ValueError.__init__"))) (opq : PySem.W.nsIn X.K cStatics "thirdparty.any" = some none) (sVE : PySem.W.subIn X.K (.ref C) (.type "ValueError") = some true)
    (mro : PySem.W.mroIn X.K C (.ref C) = some true) (sG : X.mg "super" = none) (top : (X.prog.main.scope.names.lookup ("super" : Str)).isSome = false)
    (hpa : PA X (e :: es) ta) (I : Inv X pins σ H s) (hs0 : σ[0]? = some (some (.ref a))) (ea : H a = some (exo a C none)) (h : ta σ H fun vs H1 => H1 a = some (exo a C none) ∧ vs.length ≤ 1000 ∧ nx H1)
    (hi : interactive X.env = false) (hsw : swapsWith (.Call (.Attribute (.Call (.Name "super" p0) [] [] p1) "__init__" p2) (e :: es) [] p3) none p4.line X.env = pure false)
    (heq : eval (.Call (.Attribute (.Call (.Name "super" p0) [] [] p1) "__init__" p2) (e :: es) [] p3) X.env = (do
      let ov ← attributeBase (.Call (.Name "super" p0) [] [] p1) "__init__" X.env (eval (.Call (.Name "super" p0) [] [] p1) X.env)
      standAt p2.atName
      let (f, first) ← holding [ov] (getMethod ov "__init__" pl)
      callWith p3 f first (backTo p3 (starEach (e :: es) X.env)) []))
    (he : starEach (e :: es) X.env = (false, eval e X.env) :: starEach es X.env) (hpl : (backTo p3 (starEach es X.env)).any (·.1) = false) :
    _root_.PySem.wpAt (model X.prog X.w) X.A (.func body X.env) (exec (.Expr (.Call (.Attribute (.Call (.Name "super" p0) [] [] p1) "__init__" p2) (e :: es) [] p3) p4) X.env) (fun f s' => f = .next ∧ ∃ H1, Inv X pins σ H1 s' ∧ nx H1) X.xe s := by
  refine ks_wpAt_Expr_any ?_ hi hsw
  refine ks_wpAt_MethodCall ?_ heq
  obtain ⟨nm, q, N, bs, bm, sn, sub, ab, col, dd, k0, k1, k2, k3, k5, hC, hbm⟩ := O.cls
  have hC' := I.kIn _ _ hC
  obtain ⟨cd, hcd⟩ : ∃ cd, PySem.W.clsIn X.K C = some cd := by
    unfold PySem.W.ks_superIn at sup
    cases hc : PySem.W.clsIn X.K C with
    | none => rw [hc] at sup; cases sup
    | some cd => exact ⟨cd, rfl⟩
  have hsup : PySem.W.alongIn X.K "__init__" ((cd.mro.dropWhile (· != .ref C)).drop 1) = some (some (.builtin "ValueError.__init__")) := by
    unfold PySem.W.ks_superIn at sup
    rw [hcd] at sup
    exact sup
  obtain ⟨t1, hoe⟩ := exo_at I.hok ea
  have hnc : ∀ c, (({ cls := .ref C, dict := none, data := .fields #[.ref t1, .none, .none, .none, .bool false, .none] } : Obj)).data ≠ .cls c := fun c z => by cases z
  refine ks_wpAt_super_base hks hkc rfl hfu (I.kIn _ _ lkf) rfl hp hco (I.kIn _ _ lkc) rfl hvs hfile top ?_
  obtain ⟨mb, hb1, hb2⟩ := I.mod.blt
  refine PySem.W.ks_loadName_global I.ok.kind hks (Calls.loadGlobal_builtin (by rw [I.ok.glob]; exact I.mod.glob.keeps I.bk) sG (by rw [I.ok.blt]; exact hb1.keeps I.bk) ((hb2 "super" (by decide)).trans (by decide +kernel)) ⟨rfl, ?_⟩)
  refine wpAny_loadName_free I.ok.kind hkc hcel ⟨_, I.kIn _ _ lkcc, rfl⟩ ?_
  obtain ⟨m, hn, hlk⟩ := id I.loc
  obtain ⟨u0, r0, l0⟩ := hlk 0 ar.arg (.ref a) hN0 hs0 (.inl hk0)
  obtain rfl : u0 = Value.ref a := r0
  have hma : m ar.arg = some (.ref a) := by
    rcases l0 with ⟨_, z⟩ | ⟨z | z, _⟩
    · exact z
    · rw [hk0] at z; cases z
    · rw [hk0] at z; cases z
  refine wpAny_loadName_local I.ok.kind hk0 hn hma ?_
  refine ks_wpAny_isType_cls hC' rfl ⟨rfl, ?_⟩
  obtain ⟨hh, g, d, t, os⟩ := s
  refine ks_wpAny_call_super hC' rfl hoe rfl hnc (PySem.W.looks_mroIn I.kIn mro) (fun h1 e1 kp1 => ?_)
  have I1 : Inv X pins σ H ⟨h1, g, d, t, os⟩ := I.kept (t' := t) kp1
  have hoe1 := kp1 _ _ hoe
  have ne : a ≠ C := fun z => by
    rw [z] at hoe
    have hoe := hoe.symm.trans hC'
    cases hoe
  have hI : PySem.W.Looks (model X.prog X.w) h1 (isInstance (.ref a) (.type "ValueError")) true :=
    (show PySem.W.InstAt h1 a ({ cls := .ref C, dict := none, data := .fields #[.ref t1, .none, .none, .none, .bool false, .none] } : Obj) C none from ⟨hoe1, rfl, rfl, trivial⟩).type.andThen (PySem.W.looks_subIn I1.kIn sVE)
  refine PySem.W.kxs_getMethod PySem.W.kxs_ValueError e1 (PySem.W.looks_opaque I1.kIn opq) (l₀ := cd.mro) (fun A Q E s k q => wpAny_bind ((PySem.W.looks_clsIn I1.kIn hcd) A _ E s k (wpAny_pure q))) rfl I1.kIn hsup hI ne rfl ?_
  have kp2 : ∀ b o, h1.get? b = some o → (h1.push (PySem.W.kxs_mw "ValueError.__init__" a)).get? b = some o := fun b o z => Heap.get?_push_of_some _ z
  have hu2 : (h1.push (PySem.W.kxs_mw "ValueError.__init__" a)).get? h1.objs.size = some (PySem.W.kxs_mw "ValueError.__init__" a) := Heap.get?_push_at rfl rfl
  have I2 : Inv X pins σ H ⟨h1.push (PySem.W.kxs_mw "ValueError.__init__" a), g, d, t + 1, os⟩ := I1.kept (t' := t + 1) kp2
  have nH : H h1.objs.size = none := I1.hok.fresh (Nat.le_refl _)
  have I3 : Inv X ((h1.objs.size, PySem.W.kxs_mw "ValueError.__init__" a) :: pins) σ H ⟨h1.push (PySem.W.kxs_mw "ValueError.__init__" a), g, d, t + 1, os⟩ := I2.pins_of fun p hp => by
    rcases List.mem_cons.mp hp with rfl | hp
    · exact ⟨hu2, nH, Nat.ne_of_gt I1.lt, I1.nofs (Nat.le_refl _), fun v z => by cases z⟩
    · exact I2.pin p (List.mem_append_right _ hp)
  show wpAny _ _ (callWith p3 (.ref h1.objs.size) [] (backTo p3 (starEach (e :: es) X.env)) []) _ _ _
  rw [he]
  refine PySem.W.kxs_callWith (i := "ValueError.__init__") (x := a) (by show (false || (backTo p3 (starEach es X.env)).any (·.1)) = false; rw [hpl]; rfl) ?_
  refine Calls.evalArgs_plain ?_
  show wpAny _ _ (spliced (backTo p3 ((false, eval e X.env) :: starEach es X.env))) _ _ _
  rw [← he]
  refine thn (hpa.run p3 _ _ σ H _ I3 h) fun us s4 ⟨vs4, H4, I4, r4, e4, l4, q4⟩ => ?_
  have hu4 := (I4.pin _ (List.mem_append_right _ List.mem_cons_self)).1
  have I5 : Inv X pins σ H4 s4 := I4.pins_of fun p hp => I4.pin p (List.mem_append_right _ (List.mem_cons_of_mem _ hp))
  refine ⟨hu4, ?_⟩
  refine sup_call O I5 e4 hu4 ?_ fun s5 J => ⟨rfl, H4, J, q4⟩
  show us.length ≤ sizeLine
  rw [← Paired.length r4, sizeLine_eq]
  omega
end
/-- an exception's own __init__ by its body -/
theorem fn_ofI {CX : CXT} {P : Program} {w : World} {K : PySem.W.Frag} {mg : Str → Option Value} {base : Heap} {k : Nat} {C fI : Addr} {qual : Str} {st : Stmt} {fd : FuncData} {N ps : List Str} {ar : Arg} {sp : Sp} {ex : Expr} {es : List Expr} {rest : List Stmt} {p0 p1 p2 p3 p4 : Pos}
    (T : Sup P K mg C fI qual st fd) (S : NScope N ps ["__class__"] (defScope st)) (har : ((defArgs st).posonlyargs ++ (defArgs st).args).head? = some ar) (hps : ps[0]? = some ar.arg) (hsu : (defScope st).names.lookup ("super" : Str) = some .globalImplicit)
    (len : ∀ vs H Q E, sp vs H Q E → vs.length = ps.length)
    (hst : defBody st = .Expr (.Call (.Attribute (.Call (.Name "super" p0) [] [] p1) "__init__" p2) (ex :: es) [] p3) p4 :: rest)
    (hside : ∀ (cc cda L : Addr), interactive (envF ⟨"__init__", qual, defArgs st, defBody st, defScope st, [("__class__", cc)], cda⟩ fI L) = false ∧
      swapsWith (.Call (.Attribute (.Call (.Name "super" p0) [] [] p1) "__init__" p2) (ex :: es) [] p3) none p4.line (envF ⟨"__init__", qual, defArgs st, defBody st, defScope st, [("__class__", cc)], cda⟩ fI L) = pure false ∧
      (∃ pl : Sem Bool, eval (.Call (.Attribute (.Call (.Name "super" p0) [] [] p1) "__init__" p2) (ex :: es) [] p3) (envF ⟨"__init__", qual, defArgs st, defBody st, defScope st, [("__class__", cc)], cda⟩ fI L) = (do
        let ov ← attributeBase (.Call (.Name "super" p0) [] [] p1) "__init__" (envF ⟨"__init__", qual, defArgs st, defBody st, defScope st, [("__class__", cc)], cda⟩ fI L) (eval (.Call (.Name "super" p0) [] [] p1) (envF ⟨"__init__", qual, defArgs st, defBody st, defScope st, [("__class__", cc)], cda⟩ fI L))
        standAt p2.atName
        let (f, first) ← holding [ov] (getMethod ov "__init__" pl)
        callWith p3 f first (backTo p3 (starEach (ex :: es) (envF ⟨"__init__", qual, defArgs st, defBody st, defScope st, [("__class__", cc)], cda⟩ fI L))) [])) ∧
      starEach (ex :: es) (envF ⟨"__init__", qual, defArgs st, defBody st, defScope st, [("__class__", cc)], cda⟩ fI L) = (false, eval ex (envF ⟨"__init__", qual, defArgs st, defBody st, defScope st, [("__class__", cc)], cda⟩ fI L)) :: starEach es (envF ⟨"__init__", qual, defArgs st, defBody st, defScope st, [("__class__", cc)], cda⟩ fI L) ∧
      (backTo p3 (starEach es (envF ⟨"__init__", qual, defArgs st, defBody st, defScope st, [("__class__", cc)], cda⟩ fI L))).any (·.1) = false)
    (hbody : ∀ (cc cda : Addr) (A : Around) (outer : List Env) (s : Shared) (H : Hp) (vs : List V) (Q : VK) (E : XK), Room k (A.deeper (envF ⟨"__init__", qual, defArgs st, defBody st, defScope st, [("__class__", cc)], cda⟩ fI s.heap.objs.size)) → sp vs H Q E →
      ∃ (a : Addr) (vs' : List V) (ta : TA) (t : TS), vs = .ref a :: vs' ∧ H a = some (exo a C none) ∧ PA (ncx CX P w K mg base N ⟨"__init__", qual, defArgs st, defBody st, defScope st, [("__class__", cc)], cda⟩ fI A outer s H E) (ex :: es) ta ∧
        PSs (ncx CX P w K mg base N ⟨"__init__", qual, defArgs st, defBody st, defScope st, [("__class__", cc)], cda⟩ fI A outer s H E) rest t ∧
        ta (startF N vs [none]) H fun us H1 => H1 a = some (exo a C none) ∧ us.length ≤ 1000 ∧ t { nx := fun _ H' => Q .non H', rt := Q } (startF N vs [none]) H1) :
    FnOk P w K mg base CX (k + 1) fI fd ps sp := by
  obtain ⟨oc, od, kV, doc, pm, ct, an, osl, cc, cda, ccl, cl, cdd, cld, vs2, ccs, csl, file, tf, efd, lkf, hcd, lkc, hvs, hfile, lkcc⟩ := T.ex
  subst efd
  refine ⟨len, fun A outer s H args us vs Q E hr e0 hb r hsp => ?_⟩
  have hl := len _ _ _ _ hsp
  have KX : K.In s.heap := e0.mod.kin.keeps fun b o e => (e0.bs b o e).1
  have lim : s.heap.NoLimit := e0.mod.nolimit.keeps fun b o e => (e0.bs b o e).1
  have hloc : ∀ y ∈ ps.zip us, (defScope st).names.lookup y.1 = some .local := fun ⟨n, _⟩ hy => S.par n (List.of_mem_zip hy).1
  obtain ⟨h1, h2, ⟨pl, h3⟩, h4, h5⟩ := hside cc cda s.heap.objs.size
  refine ks_codeAny_call_defAt (fd := PySem.W.fnX "__init__" qual (defArgs st) (defBody st) (defScope st) [("__class__", cc)] .none kV doc pm an (.ref cda) ct) (body := defBody st) (binds := ps.zip us) hr.depth (KX _ _ lkf) rfl lim (PySem.W.codeRec_of KX hcd) rfl hb S.nocell hloc (fun h₁ hns kp => ?_) S.co S.gen S.kind
  have C0 : CellsAt [(("__class__" : Str), cc)] ["__class__"] [none] s.heap H := by
    have bc := e0.mod.kin _ _ lkcc
    have hc := e0.bs _ _ bc
    have look1 : ∀ {y : Str} {c : Addr}, List.lookup y [(("__class__" : Str), cc)] = some c → y = "__class__" ∧ c = cc := fun {y c} z => by
      by_cases hy : y = ("__class__" : Str)
      · subst hy
        simp [List.lookup] at z
        exact ⟨rfl, z.symm⟩
      · have e : (y == ("__class__" : Str)) = false := by simpa using hy
        simp [List.lookup, e] at z
    refine ⟨rfl, fun y c z => ?_, fun x y c z1 z2 => (look1 z1).1.trans (look1 z2).1.symm, fun i y z => ?_⟩
    · obtain ⟨_, rfl⟩ := look1 z
      exact ⟨hc.2, _, _, hc.1, rfl⟩
    · cases i with
      | zero =>
        have e : ("__class__" : Str) = y := by simpa using z
        subst e
        exact ⟨cc, by simp [List.lookup], fun v q => by simp at q⟩
      | succ i => simp at z
  have I : Inv (ncx CX P w K mg base N ⟨"__init__", qual, defArgs st, defBody st, defScope st, [("__class__", cc)], cda⟩ fI A outer s H E) [] (startF N vs [none]) H { s with heap := h₁, toks := s.toks + (ps.zip us).length } := inv_startN S hr.hd e0 hl r C0 hns kp
  obtain ⟨a, vs', ta, t, evs, ea, hpa, hrest, hq⟩ := hbody cc cda A outer s H vs Q E (hr.deeper _) hsp
  have hN0 : N[0]? = some ar.arg := by
    have hpre := S.pre
    have q : (ps ++ [("__class__" : Str)])[0]? = some ar.arg := by
      rw [List.getElem?_append_left (by
        cases ps with
        | nil => simp at hps
        | cons _ _ => simp)]
      exact hps
    rw [← hpre, List.getElem?_take_of_lt (by simp)] at q
    exact q
  have hs0 : (startF N vs [none])[0]? = some (some (.ref a)) := by
    rw [evs]
    rfl
  have hloc0 : (defScope st).names.lookup ar.arg = some .local := S.par _ (List.mem_of_getElem? hps)
  have fin : ∀ {σ' : L2.St} {H' : Hp} {v : V} {u : Value} {s' : Shared}, Inv (ncx CX P w K mg base N ⟨"__init__", qual, defArgs st, defBody st, defScope st, [("__class__", cc)], cda⟩ fI A outer s H E) [] σ' H' s' → L2.RelV v u → Q v H' → CE outer P w H s Q u s' :=
    fun {σ' H' v u s'} J rv q => ⟨v, H', J.os, J.bare, J.base, J.hok, rv, q⟩
  have sup := sup_stmt (X := ncx CX P w K mg base N ⟨"__init__", qual, defArgs st, defBody st, defScope st, [("__class__", cc)], cda⟩ fI A outer s H E) (body := defBody st) (p0 := p0) (p1 := p1) (p2 := p2) (p3 := p3) (p4 := p4) (pl := pl) (e := ex) (es := es) (C := C) (a := a)
    (nx := fun H1 => t { nx := fun _ H' => Q .non H', rt := Q } (startF N vs [none]) H1) (fI := fI) (cda := cda) (cc := cc) (ar := ar) (vs := vs2) (file := file) (tf := tf)
    T.O rfl lkf har rfl lkc hvs hfile (by rfl) lkcc hsu (S.frk _ List.mem_cons_self) hloc0 hN0 T.sup T.opq T.sVE T.mro T.sG T.top hpa I hs0 ea hq h1 h2 h3 h4 h5
  show _root_.PySem.wpAt (model P w) (A.deeper (envF ⟨"__init__", qual, defArgs st, defBody st, defScope st, [("__class__", cc)], cda⟩ fI s.heap.objs.size)) (.func (defBody st) (envF ⟨"__init__", qual, defArgs st, defBody st, defScope st, [("__class__", cc)], cda⟩ fI s.heap.objs.size))
    (execs (defBody st) (envF ⟨"__init__", qual, defArgs st, defBody st, defScope st, [("__class__", cc)], cda⟩ fI s.heap.objs.size)) _ _ _
  have sp2 : ∀ (stmts : List Stmt), stmts = .Expr (.Call (.Attribute (.Call (.Name "super" p0) [] [] p1) "__init__" p2) (ex :: es) [] p3) p4 :: rest →
      _root_.PySem.wpAt (model P w) (A.deeper (envF ⟨"__init__", qual, defArgs st, defBody st, defScope st, [("__class__", cc)], cda⟩ fI s.heap.objs.size)) (.func (defBody st) (envF ⟨"__init__", qual, defArgs st, defBody st, defScope st, [("__class__", cc)], cda⟩ fI s.heap.objs.size))
        (execs stmts (envF ⟨"__init__", qual, defArgs st, defBody st, defScope st, [("__class__", cc)], cda⟩ fI s.heap.objs.size)) (fun f s' => CR CX outer P w H s Q E (.ok (.ret (match f with | .ret v => v | _ => .none))) s')
        (ncx CX P w K mg base N ⟨"__init__", qual, defArgs st, defBody st, defScope st, [("__class__", cc)], cda⟩ fI A outer s H E).xe { s with heap := h₁, toks := s.toks + (ps.zip us).length } := fun stmts es' => by
    subst es'
    refine ks_wpAt_execs_cons (ks_wpAt_mono sup (fun f s' ⟨ef, H1, J, q⟩ => ?_) fun _ _ z => z)
    subst ef
    refine PySem.wpAt_of_wpAny (wpAny_mono (hrest.run [] s' _ H1 _ J q) (fun fl s2 hs => ?_) fun e s' hs => hs)
    cases fl with
    | ret u =>
      obtain ⟨v, σ', H', J, rv, q⟩ := hs
      exact fin J rv q
    | next =>
      obtain ⟨σ', H', J, q⟩ := hs
      exact fin (v := V.non) (u := Value.none) J rfl q
    | brk =>
      obtain ⟨_, _, _, q⟩ := hs
      exact False.elim q
    | cont =>
      obtain ⟨_, _, _, q⟩ := hs
      exact False.elim q
  exact sp2 (defBody st) hst
end GX

set_option Elab.async false
set_option linter.all false
set_option maxRecDepth 100000
set_option maxHeartbeats 4000000
namespace GX
open PySem PySem.Spec PyProof.Rows L2
/-- behind a suite whose name goes -/
def endsA (D : Ends) (i : Nat) : Ends := { nx := fun σ' H' => D.nx (σ'.set i none) H', rt := D.rt, bk := fun σ' H' => D.bk (σ'.set i none) H', ct := fun σ' H' => D.ct (σ'.set i none) H' }
/-- what the clauses, named ones too, wish of an exception of the body, one after the other -/
def wManyA (K : PySem.W.Frag) (Wout : WX) (D : Ends) : List (Value × Option Nat × (Addr → Value → Option Addr → TS)) → WX
  | [] => Wout
  | (c, .none, ts) :: r => fun cls d σ H => ∃ b, PySem.W.exmOne K cls c = some b ∧ (b = true → ∀ a, H a = none → ts a cls d D σ H) ∧ (b = false → wManyA K Wout D r cls d σ H)
  | (c, .some i, ts) :: r => fun cls d σ H => ∃ b, PySem.W.exmOne K cls c = some b ∧ (b = true → ∀ a, H a = none → ts a cls d (endsA D i) (σ.set i (some (.ref a))) H) ∧ (b = false → wManyA K Wout D r cls d σ H)
inductive HdsA (X : Cx) : List ExceptHandler → List (Value × Option Nat × (Addr → Value → Option Addr → TS)) → Prop
  | nil : HdsA X [] []
  | plain {x : Str} {c : Value} {ts : Addr → Value → Option Addr → TS} {b₀ : Stmt} {suite : List Stmt} {np pos' : Pos} {hds : List ExceptHandler} {l : List (Value × Option Nat × (Addr → Value → Option Addr → TS))} (hc : Names X x c)
      (hsu : ∀ (a : Addr) (oe : Obj) (cls : Value) (d : Option Addr) (pn : List (Addr × Obj)), Zc cls d oe → (∃ vs, oe.data = .fields vs) → PSs (X.suite a ((a, oe) :: pn)) (b₀ :: suite) (ts a cls d)) (r : HdsA X hds l) :
      HdsA X (.ExceptHandler (some (.Name x np)) none (b₀ :: suite) pos' :: hds) ((c, .none, ts) :: l)
  | named {x n : Str} {i : Nat} {c : Value} {ts : Addr → Value → Option Addr → TS} {b₀ : Stmt} {suite : List Stmt} {np pos' : Pos} {hds : List ExceptHandler} {l : List (Value × Option Nat × (Addr → Value → Option Addr → TS))} (hc : Names X x c)
      (hi : X.N[i]? = some n) (hln : X.env.kindOf n = some .local)
      (hsu : ∀ (a : Addr) (oe : Obj) (cls : Value) (d : Option Addr) (pn : List (Addr × Obj)), Zc cls d oe → (∃ vs, oe.data = .fields vs) → PSs (X.suite a ((a, oe) :: pn)) (b₀ :: suite) (ts a cls d)) (r : HdsA X hds l) :
      HdsA X (.ExceptHandler (some (.Name x np)) (some n) (b₀ :: suite) pos' :: hds) ((c, .some i, ts) :: l)
section
variable {X : Cx} {body : List Stmt} {h₀ : ExceptHandler} {hds : List ExceptHandler} {l : List (Value × Option Nat × (Addr → Value → Option Addr → TS))} {pos : Pos} {tb : WX → TS} {Wout : WX}
theorem ps_try_manyA (hs : X.stack = X.env :: X.outer) (hf : X.env.frame = some X.env.locals) (hN : X.N.Nodup) (tk : Takes X Wout)
    (hb : ∀ (W : WX) (pn : List (Addr × Obj)) (xe : Value → Shared → Prop), Takes (X.tr pn xe) W → PassesOwn (model X.prog X.w) X.A X.env xe → PSs (X.tr pn xe) body (tb W))
    (hh : HdsA X (h₀ :: hds) l) : PS X (.Try body (h₀ :: hds) [] [] pos) (fun D σ H => tb (wManyA X.K Wout D l) D σ H) := by
  refine ⟨fun pins s σ H D I h => ?_⟩
  have ok := I.ok
  have hfr : X.A.frames = some (X.env :: X.outer) := by rw [ok.frames, hs]
  refine wpAny_Try_except ?_
  refine wpAny_mono ((hb (wManyA X.K Wout D l) (X.pn ++ pins) (fun e s₁ => wpAny (model X.prog X.w) X.A (noteFrame e X.env) (fun _ s₂ => wpAny (model X.prog X.w) X.A (setFlight e none) (fun _ s₃ =>
    wpAny (model X.prog X.w) X.A (handleBy e X.env (h₀ :: hds)) (SP X pins D) X.xe s₃) X.xe s₂) X.xe s₁) (fun u s' xx => ?_) PassesOwn.looking).run [] s σ H D (I.toTry _) h) (fun f s1 hsp => ?_) (fun e s1 he => he)
  · obtain ⟨a, B, sI, pins', σ', H', cls, d, rfl, J', nb, up, sky, na, os, ag, w⟩ := xx
    have J : Inv X pins σ' H' sI := J'.ofTry ok
    have sky' : Sky B (X.env :: X.outer) a (Zc cls d) X.env.locals s'.heap := by rw [← hs]; exact sky
    show wpAny (model X.prog X.w) X.A (noteFrame (.ref a) X.env) _ _ _
    refine Sky.land Zc.steady hfr hf sky' fun h3 fl3 up3 => ?_
    have J3 : Inv X pins σ' H' { s' with heap := h3 } := J.landed nb fl3.1 (up.trans up3) os ag
    obtain ⟨oe3, vs3, he3, hz3, hd3⟩ := fl3.there
    have notFr : ∀ {h : Heap} {o : Obj} {vs : Array Value}, h.FunFrames B (X.env :: X.outer) → h.get? a = some o → o.data = .fields vs → a ∉ frs (X.env :: X.outer) := fun {h o vs} ff e dd hm => by
      obtain ⟨_, o', e', hnf⟩ := ff.mem hm
      rw [e] at e'; cases e'
      exact hnf _ dd
    have nfr := notFr fl3.2.2.1 he3 hd3
    have nL : a ≠ X.env.locals := fun z => nfr (List.mem_filterMap.mpr ⟨X.env, List.mem_cons_self, by rw [hf, z]⟩)
    have nF : a ∉ X.fs := fun hm => by
      obtain ⟨e, he, q⟩ := List.mem_filterMap.mp hm
      exact nfr (List.mem_filterMap.mpr ⟨e, List.mem_cons_of_mem _ he, q⟩)
    have S3 := J3.suite he3 hd3 na nL nF
    have LT : PySem.W.Looks (model X.prog X.w) h3 (typeOf (.ref a)) cls := fun A Q E s k q => wpAny_typeOf_ref (k _ _ he3) (by rw [hz3.1]; exact q)
    have test : ∀ {x : Str} {c : Value} {np : Pos} {Q : Value → Shared → Prop} {E : Value → Shared → Prop}, Names X x c → Q c { s' with heap := h3 } → wpAny (model X.prog X.w) (X.A.mark (some (.ref a))) (eval (.Name x np) X.env) Q E { s' with heap := h3 } := fun {x c np Q E} hc q => by
      obtain ⟨hg, hdbg, hm | ⟨hm, hv, hnn⟩⟩ := hc
      · exact ld_glob (X := X.suite a ((a, oe3) :: (X.pn ++ pins))) S3 hg hm q hdbg
      · exact ld_blt (X := X.suite a ((a, oe3) :: (X.pn ++ pins))) S3 hg hm hv q hnn hdbg
    have go : ∀ {hds' : List ExceptHandler} {l' : List (Value × Option Nat × (Addr → Value → Option Addr → TS))}, HdsA X hds' l' → wManyA X.K Wout D l' cls d σ' H' →
        wpAny (model X.prog X.w) X.A (handleBy (.ref a) X.env hds') (SP X pins D) X.xe { s' with heap := h3 } := by
      intro hds' l' hk
      induction hk with
      | nil =>
        intro w
        refine wpAny_handleBy_nil ?_
        obtain ⟨k1, k2, k3, oe, vs, T, oT, ts', he, hz, hd, h1, hr⟩ := id fl3
        unfold PySem.passOn
        refine wpAny_bind (wpAny_field he hd h1 ?_)
        rw [if_neg (show ¬ ((Value.ref T == Value.none) = true) from by simp)]
        have fin : wpAny (model X.prog X.w) X.A (setFlight (.ref a) X.env.frame) (fun _ s4 => wpAny (model X.prog X.w) X.A (throw (.ref a) : Sem Flow) (SP X pins D) X.xe s4) X.xe { s' with heap := h3 } := by
          rw [hf]
          refine HandSPX.setFlight_upZ fl3 fun h4 hh4 up4 => wpAny_throw (tk _ _ ?_)
          exact ⟨a, B, sI, pins, σ', H', cls, d, rfl, J, nb, (up.trans up3).trans up4, .inr (.inr (by rw [hs]; exact hh4)), na, os, ag, w⟩
        first
          | exact wpAny_bind (wpAny_pure (wpAny_bind fin))
          | exact wpAny_bind fin
      | @plain x c ts b₀ suite np pos' hds2 l2 hc hsu r ih =>
        intro w
        obtain ⟨b, hb1, hyes, hno⟩ := w
        refine wpAny_handleBy_cons (codeAny_handlers_test ?_) (by intro q; cases q)
        have LM := PySem.W.exm_one (M := model X.prog X.w) (J3.kIn) LT hb1
        refine test hc (LM.here ?_)
        cases b with
        | true =>
          refine codeAny_handlers_suite ?_
          refine HandSPX.lands_againZ fl3 fun h4 fl4 up4 => ?_
          have J4 : Inv X pins σ' H' { s' with heap := h4 } := J.landed nb fl4.1 ((up.trans up3).trans up4) os ag
          obtain ⟨oe4, vs4, he4, hz4, hd4⟩ := fl4.there
          have S4 := J4.suite he4 hd4 na nL nF
          refine wpAny_mono ((hsu a oe4 cls d (X.pn ++ pins) hz4 ⟨_, hd4⟩).run [] _ _ H' _ S4 (hyes rfl a na)) (fun f s6 hsp => ?_) (fun _ _ z => False.elim z)
          cases f with
          | next =>
            obtain ⟨σ6, H6, S6, q6⟩ := hsp
            exact ⟨_, _, S6.unsuite ok, q6⟩
          | brk =>
            obtain ⟨σ6, H6, S6, q6⟩ := hsp
            exact ⟨_, _, S6.unsuite ok, q6⟩
          | cont =>
            obtain ⟨σ6, H6, S6, q6⟩ := hsp
            exact ⟨_, _, S6.unsuite ok, q6⟩
          | ret u =>
            obtain ⟨v6, σ6, H6, S6, r6, q6⟩ := hsp
            exact ⟨_, _, _, S6.unsuite ok, r6, q6⟩
        | false =>
          show wpAny _ X.A (handleBy (.ref a) X.env hds2) _ _ _
          exact ih (hno rfl)
      | @named x n i c ts b₀ suite np pos' hds2 l2 hc hi hln hsu r ih =>
        intro w
        obtain ⟨b, hb1, hyes, hno⟩ := w
        have hloc : Loc X.env.scope n := .inl hln
        refine wpAny_handleBy_cons (codeAny_handlers_test ?_) (by intro q; cases q)
        have LM := PySem.W.exm_one (M := model X.prog X.w) (J3.kIn) LT hb1
        refine test hc (LM.here ?_)
        cases b with
        | true =>
          refine codeAny_handlers_suite_as ?_
          refine HandSPX.lands_againZ fl3 fun h4 fl4 up4 => ?_
          have J4 : Inv X pins σ' H' { s' with heap := h4 } := J.landed nb fl4.1 ((up.trans up3).trans up4) os ag
          obtain ⟨oe4, vs4, he4, hz4, hd4⟩ := fl4.there
          have S4 := J4.suite he4 hd4 na nL nF
          refine store_ok (X := X.suite a ((a, oe4) :: (X.pn ++ pins))) (v := .ref a) S4 hN hi hloc rfl (fun s5 S5 => ?_) (.inr hln)
          refine wpAny_mono ((hsu a oe4 cls d (X.pn ++ pins) hz4 ⟨_, hd4⟩).run [] s5 _ H' _ S5 (hyes rfl a na)) (fun f s6 hsp => ?_) (fun _ _ z => False.elim z)
          have end_ : ∀ {σ6 : L2.St} {H6 : Hp} {Q : Shared → Prop}, Inv (X.suite a ((a, oe4) :: (X.pn ++ pins))) [] σ6 H6 s6 → (∀ s7, Inv X pins (σ6.set i none) H6 s7 → Q s7) →
              wpAny (model X.prog X.w) X.A (do bindName X.env n .none; unbindBehindTheSuite X.env n pos') (fun _ s7 => Q s7) X.xe s6 := fun {σ6 H6 Q} S6 hq => gone_ok (S6.unsuite ok) hN hi hln hq
          cases f with
          | next =>
            obtain ⟨σ6, H6, S6, q6⟩ := hsp
            exact end_ S6 fun s7 J7 => ⟨_, _, J7, q6⟩
          | brk =>
            obtain ⟨σ6, H6, S6, q6⟩ := hsp
            exact end_ S6 fun s7 J7 => ⟨_, _, J7, q6⟩
          | cont =>
            obtain ⟨σ6, H6, S6, q6⟩ := hsp
            exact end_ S6 fun s7 J7 => ⟨_, _, J7, q6⟩
          | ret u =>
            obtain ⟨v6, σ6, H6, S6, r6, q6⟩ := hsp
            exact end_ S6 fun s7 J7 => ⟨_, _, _, J7, r6, q6⟩
        | false =>
          show wpAny _ X.A (handleBy (.ref a) X.env hds2) _ _ _
          exact ih (hno rfl)
    exact go hh w
  · cases f with
    | next =>
      obtain ⟨σ', H', J', q⟩ := hsp
      exact wpAny_execs_nil ⟨σ', H', J'.ofTry ok, q⟩
    | brk =>
      obtain ⟨σ', H', J', q⟩ := hsp
      exact ⟨σ', H', J'.ofTry ok, q⟩
    | cont =>
      obtain ⟨σ', H', J', q⟩ := hsp
      exact ⟨σ', H', J'.ofTry ok, q⟩
    | ret u =>
      obtain ⟨v, σ', H', J', r, q⟩ := hsp
      exact ⟨v, σ', H', J'.ofTry ok, r, q⟩
end
end GX

set_option Elab.async false
set_option linter.all false
set_option maxRecDepth 100000
set_option maxHeartbeats 4000000
namespace PySem
set_option maxHeartbeats 1000000 in
theorem gx_meets_enumerate_newB1 {v : Value} {o : Obj} {H : Heap → Prop} (B : Begins v o H) :
    Meets (Builtin.«enumerate.__new__» ⟨[.type "enumerate", v], []⟩) (fun _ R s => H s.heap ∧
      R (.ok (.ret (.ref (s.heap.push o).objs.size))) { s with heap := (s.heap.push o).push { cls := .type "enumerate", data := .fields #[.none, .bool false, .ref s.heap.objs.size, rawInt 0, .none, .none] } }) :=
  .of_wp fun prog w A R s h => by
    obtain ⟨hp, g, d, tk, os⟩ := s; obtain ⟨h1, h⟩ := h
    have hsub := sub_enumerate
    have q1 : ∀ {A' : Around} {E : Value → Shared → Prop} {Q : Value → Shared → Prop}, Q (.ref hp.objs.size) ⟨hp.push o, g, d, tk, os⟩ → wpAny (model prog w) A' (pyIter v) Q E ⟨hp, g, d, tk, os⟩ :=
      fun q => B.iter prog w _ _ ⟨hp, g, d, tk, os⟩ _ h1 q
    wp_walk using q1
    refine wpAny_stack_any fun st => wpAny_pure ?_
    split
    · rename_i c _ _ _ _ _
      cases (c == Value.type "enumerate")
      · wp_walk using q1
        exact ⟨_, rfl, h⟩
      · wp_walk using q1
        exact ⟨_, rfl, h⟩
    · wp_walk using q1
      exact ⟨_, rfl, h⟩
theorem gx_enum1 {prog : Program} {w : World} {A : Around} {E : Value → Shared → Prop} {s : Shared} {v : Value} {o : Obj} {H : Heap → Prop} {Q : Value → Shared → Prop} (B : Begins v o H) (h1 : H s.heap)
    (h : ∀ h', IsEnum h' (s.heap.objs.size + 1) s.heap.objs.size 0 .none → h'.get? s.heap.objs.size = some o → h'.objs.size = s.heap.objs.size + 2 →
      (∀ b o, s.heap.get? b = some o → h'.get? b = some o) → Q (.ref (s.heap.objs.size + 1)) { s with heap := h' }) :
    wpAny (model prog w) A (call (.type "enumerate") [v]) Q E s := by
  refine callType_new F.called_enumerate (by decide) (F.typeCall_enumerate_1 _) (F.newCall_enumerate_1 _) (fun obj => F.args_object_init_2 obj _) F.entry_enumerate_new
    (gx_meets_enumerate_newB1 B) ⟨h1, ?_⟩
  have hz : (s.heap.push o).objs.size = s.heap.objs.size + 1 := Heap.size_push ..
  show _ ∧ _
  rw [hz]
  have he : IsEnum ((s.heap.push o).push { cls := .type "enumerate", data := .fields #[.none, .bool false, .ref s.heap.objs.size, rawInt 0, .none, .none] }) (s.heap.objs.size + 1) s.heap.objs.size 0 .none := by
    have := Heap.get?_push_size (s.heap.push o) (o := { cls := .type "enumerate", data := .fields #[.none, .bool false, .ref s.heap.objs.size, rawInt 0, .none, .none] }) rfl
    rw [hz] at this; exact this
  refine ⟨⟨_, he, rfl⟩, h _ he (Heap.get?_push_of_some _ (Heap.get?_push_size _ B.free)) (by rw [Heap.size_push, hz]) fun b o x => Heap.get?_push_of_some _ (Heap.get?_push_of_some _ x)⟩
end PySem
namespace GX
open PySem PySem.Spec PyProof.Rows L2
/-! ### enumerate(tuple) -/
def IteT (K : PySem.W.Frag) (a : Addr) : It :=
  ⟨fun i H => ∃ (xs : List V) (x : V), SqT K H a xs ∧ xs[i]? = some x, fun i H v H' => ∃ T x, v = .ref T ∧ H T = none ∧ H' = upd H T (.tup [.int (i : Nat), x]) ∧ ∀ xs, SqT K H a xs → xs[i]? = some x, fun i H => ∃ xs : List V, SqT K H a xs ∧ xs.length = i⟩
theorem turn_enumT {P : Program} {w : World} {K : PySem.W.Frag} {elts : List Expr} {kk : Nat} {tpos : Pos} (a e it : Addr) :
    Turn P w K (.Tuple elts kk tpos) (IteT K a) [e, it] e (fun i h => (∃ old, IsEnum h e it ((i : Nat) : Int) old) ∧ h.IsTupleIter it a i ∧ e ≠ it ∧ a ≠ e ∧ a ≠ it) where
  mem := by simp
  obj := fun i h st b hb => by
    obtain ⟨⟨old, he⟩, ⟨o, ho, hc, hd⟩, _⟩ := st
    have e' : b = e ∨ b = it := by simpa using hb
    rcases e' with z | z
    · rw [z]; exact ⟨_, he, fun v q => nomatch q⟩
    · rw [z]; exact ⟨o, ho, fun v q => by rw [hd] at q; cases q⟩
  keep := fun i h h' st k => let ⟨⟨old, he⟩, hi, hne⟩ := st; ⟨⟨old, k e (by simp) _ he⟩, hi.at fun o q => k it (by simp) o q, hne⟩
  item := by
    intro X hP hw hK hc i pins s σ H E I hf st hg
    subst hP hw hK
    obtain ⟨⟨old, he⟩, hit, hne, hae, hai⟩ := st
    obtain ⟨xs, x, hq, hx⟩ := hg
    obtain ⟨its, rv, p, hz⟩ := I.tuple hq
    obtain ⟨u, hu, ru⟩ := rv.get hx
    have hel : e < s.heap.objs.size := Heap.lt_size he
    have hil : it < s.heap.objs.size := by obtain ⟨_, q, _⟩ := hit; exact Heap.lt_size q
    have D := Draws.tuple (prog := X.prog) (w := X.w) (A := X.A.in1) (show X.A.in1.handled = none from I.ok.hd hc) it a hai its.toArray
    have hlt : i < its.toArray.size := by
      rcases Nat.lt_or_ge i its.toArray.size with z | z
      · exact z
      · have z' : its.length ≤ i := by simpa using z
        rw [List.getElem?_eq_none z'] at hu
        cases hu
    refine wpAny_pyNext_enum_itemD D he ⟨hit, (show s.heap.IsTuple a its.toArray from p)⟩ hlt hne (by simp [hne, Ne.symm hae]) fun x1 h' tk hx1 ho hst hT hsz hk => ?_
    have ex1 : x1 = u := by
      have q : its[i]? = some x1 := by simpa using hx1
      rw [hu] at q
      exact (Option.some.inj q).symm
    subst ex1
    refine ⟨_, rfl, wpAny_letOwnedTupleGo_enum (s := { s with heap := h', toks := tk + 1 }) ho fun h'' he' sb => ?_⟩
    have hT2 : h''.get? s.heap.objs.size = some { cls := .type "tuple", data := .seq #[.int i tk, x1] } := (sb.2 _ (Nat.ne_of_gt hel)).trans hT
    have new : ObjOk X.prog X.w (upd H s.heap.objs.size (.tup [.int (i : Nat), x])) h'' s.heap.objs.size (.tup [.int (i : Nat), x]) :=
      ⟨by show 2 ≤ sizeLine; decide, [.int i tk, x1], .cons ⟨_, rfl⟩ (.cons ru .nil), ⟨_, hT2, rfl, _, rfl⟩⟩
    have I1 : Inv X pins σ (upd H s.heap.objs.size (.tup [.int (i : Nat), x])) { s with heap := h'', toks := tk + 1 } :=
      I.turnedNew (ch := [e, it]) (fun b ob hb q => (sb.2 b (fun z => hb (by simp [z]))).trans (hk b ob (fun z => hb (by simp [z])) (fun z => hb (by simp [z])) q)) hf (Nat.le_refl _) new
    refine ⟨.ref s.heap.objs.size, _, I1, rfl, ⟨_, x, rfl, I.hok.fresh (Nat.le_refl _), rfl, fun ys hy => by rw [I.tuple_inj hy hq]; exact hx⟩, ⟨⟨x1, ?_⟩, hst.1.at fun o q => (sb.2 it (Ne.symm hne)).trans q, hne, hae, hai⟩, fun b hb => ?_⟩
    · have e1 : ((i + 1 : Nat) : Int) = (i : Int) + 1 := by omega
      rw [e1]; exact he'
    · have hb' : b < s.heap.objs.size := by
        have e' : b = e ∨ b = it := by simpa using hb
        rcases e' with z | z
        · rw [z]; exact hel
        · rw [z]; exact hil
      rw [upd_ne (Nat.ne_of_lt hb')]
      exact (hf b hb).1
  done := by
    intro X hP hw hK hc i pins s σ H E I hf st hg
    subst hP hw hK
    obtain ⟨⟨old, he⟩, hit, hne, hae, hai⟩ := st
    obtain ⟨xs, hq, hx⟩ := hg
    obtain ⟨its, rv, p, hz⟩ := I.tuple hq
    obtain ⟨f0, f1, f2, f3, f4, f5⟩ := hf it (by simp)
    have hl := rv.length
    have D := Draws.tuple (prog := X.prog) (w := X.w) (A := X.A.in1) (show X.A.in1.handled = none from I.ok.hd hc) it a hai its.toArray
    have e0 : its.toArray.size = i := by simp; omega
    exact wpAny_pyNext_enum_endD D he ⟨by rw [e0]; exact hit, (show s.heap.IsTuple a its.toArray from p)⟩ fun h' eb => ⟨rfl, I.turned (t' := s.toks) (fun b o hb q => eb b o hb q) f0 f1 f3 f4 f5⟩
  self := fun A i s Q E st h => let ⟨⟨_, he⟩, _⟩ := st; wpAny_pyIter_enum he h
/-- enumerate(list or tuple) -/
def iEnumA (K : PySem.W.Frag) (ta : TA) : TI := fun σ H R => ta σ H fun vs H1 => ∃ a xs, vs = [.ref a] ∧ ((SqL K H1 a xs ∧ R (Ite K a) H1) ∨ (SqT K H1 a xs ∧ R (IteT K a) H1))
theorem pi_enumA {X : Cx} {e : Expr} {ta : TA} {p pos tpos : Pos} {elts : List Expr} {kk : Nat} (hg : Gl X "enumerate") (hm : X.mg "enumerate" = none) (ha : PA X [e] ta) (hs : starEach [e] X.env = [(false, eval e X.env)] := by rfl) :
    PI X (.Tuple elts kk tpos) (.Call (.Name "enumerate" p) [e] [] pos) (iEnumA X.K ta) := by
  refine ⟨fun pins s σ H R I h => ?_⟩
  refine Call_ (ld_blt I hg hm boot_enumerate (PyProof.Rows.callWith_type1 (thn (ha.run pos pins s σ H _ I h) fun us s1 ⟨vs, H1, I1, r1, q1⟩ => ?_) hs rfl))
  obtain ⟨a, xs, ex, q⟩ := q1
  subst ex
  cases r1 with
  | cons r rr =>
    cases rr
    cases r
    have fr : ∀ b, b = s1.heap.objs.size + 1 ∨ b = s1.heap.objs.size → FpOk X pins H1 b := fun b e' => by
      have hle : s1.heap.objs.size ≤ b := by
        rcases e' with z | z
        · rw [z]; exact Nat.le_add_right _ _
        · rw [z]; exact Nat.le_refl _
      exact I1.fpOk hle (I1.hok.fresh hle)
    rcases q with ⟨hq, q⟩ | ⟨hq, q⟩
    · obtain ⟨its, rv, p', hz⟩ := I1.list hq
      refine call_enumerate_list p'.isList fun h' he hit hsz hk => wpAny_pyIter_enum he ?_
      have I2 : Inv X pins σ H1 { s1 with heap := h' } := I1.kept (t' := s1.toks) hk
      exact ⟨s1.heap.objs.size + 1, [s1.heap.objs.size + 1, s1.heap.objs.size], _, _, H1, rfl, I2, turn_enum a (s1.heap.objs.size + 1) s1.heap.objs.size, ⟨⟨.none, he⟩, hit, Nat.succ_ne_self _⟩, fun b hb => fr b (by simpa using hb), q⟩
    · obtain ⟨its, rv, p', hz⟩ := I1.tuple hq
      have hal := p'.lt
      refine gx_enum1 (begins_tuple a its.toArray) (show s1.heap.IsTuple a its.toArray from p') fun h' he hit hsz hk => wpAny_pyIter_enum he ?_
      have I2 : Inv X pins σ H1 { s1 with heap := h' } := I1.kept (t' := s1.toks) hk
      exact ⟨s1.heap.objs.size + 1, [s1.heap.objs.size + 1, s1.heap.objs.size], _, _, H1, rfl, I2, turn_enumT a (s1.heap.objs.size + 1) s1.heap.objs.size, ⟨⟨.none, he⟩, ⟨_, hit, rfl, rfl⟩, Nat.succ_ne_self _, Nat.ne_of_lt (Nat.lt_succ_of_lt hal), Nat.ne_of_lt hal⟩, fun b hb => fr b (by simpa using hb), q⟩
/-! ### range(n) as a value; a walk of it -/
theorem cr_range1 {X : Cx} : CallR X (.type "range") (fun vs H Q => ∃ j, vs = [V.int j] ∧ ∀ p, H p = none → Q (.ref p) (upd H p (.rng 0 j))) := by
  intro pins s σ H vs us Q I r h
  obtain ⟨j, rfl, q⟩ := h
  obtain ⟨u1, rfl, ri⟩ := vals1 r
  obtain ⟨t, rfl⟩ := ri
  refine call_range_1 ⟨.ref s.heap.objs.size, upd H s.heap.objs.size (.rng 0 j), I.laid (t' := s.toks + 2) (fun b o e => Heap.get?_push_of_some _ e) (Nat.le_refl _) ?_, rfl, q _ (I.hok.fresh (Nat.le_refl _))⟩
  exact ⟨s.toks, t, s.toks + 1, Heap.get?_push_size _ rfl⟩
/-- a range that stands in H, walked -/
def iRngO (tl : TE) : TI := fun σ H R => tl σ H fun x H1 => ∃ a lo hi, x = .ref a ∧ H1 a = some (.rng lo hi) ∧ (-(2 ^ 62) ≤ lo ∧ lo < 2 ^ 62 ∧ -(2 ^ 62) ≤ hi ∧ hi < 2 ^ 62) ∧ R (Itr lo (hi - lo).toNat) H1
theorem pi_rngO {X : Cx} {tg l : Expr} {tl : TE} (hl : PE X l tl) : PI X tg l (iRngO tl) := by
  refine ⟨fun pins s σ H R I h => ?_⟩
  refine thn (hl.run pins s σ H _ I h) fun v s1 ⟨x, H1, I1, r1, q1⟩ => ?_
  obtain ⟨a, lo, hi, e, ha, ⟨b1, b2, b3, b4⟩, q⟩ := q1
  subst e
  cases r1
  obtain ⟨t, u, v, ho⟩ := (show ∃ t u v, s1.heap.get? a = some { cls := .type "range", data := .fields #[.int lo t, .int hi u, .int 1 v] } from I1.hok a _ ha)
  refine wpAny_pyIter_range ho (small_one b1 b2 b3 b4) ?_
  refine ⟨s1.heap.objs.size, [s1.heap.objs.size], _, _, H1, rfl, I1.kept (t' := s1.toks) fun b o e => Heap.get?_push_of_some _ e, turn_range _ lo (hi - lo).toNat, ?_, fun b hb => ?_, q⟩
  · have e1 : lo + ((0 : Nat) : Int) * 1 = lo := by simp
    have e2 : (((hi - lo).toNat : Nat) : Int) - ((0 : Nat) : Int) = Builtin.Range.rangeSize lo hi 1 := by rw [rangeSize_one]; split <;> omega
    show IsRangeIter _ _ (lo + ((0 : Nat) : Int) * 1) ((((hi - lo).toNat : Nat) : Int) - ((0 : Nat) : Int)) 1
    rw [e1, e2]
    exact Heap.get?_push_size _ rfl
  · have e : b = s1.heap.objs.size := by simpa using hb
    subst e
    exact I1.fpOk (Nat.le_refl _) (I1.hok.fresh (Nat.le_refl _))
end GX
namespace PySem
open SrtO
section
open PyProof.Rows
variable {prog : Program} {w : World} {A : Around} {E : Value → Shared → Prop} {s : Shared}
theorem gx_collect_tuple {l : Addr} {vs : List Value} {Q : List Value → Shared → Prop} (hl : s.heap.IsTuple l vs.toArray)
    (h : Q vs { s with heap := (s.heap.push (seqObj "list" #[] 0)).update s.heap.objs.size (Obj.mapSeq (· ++ vs.toArray)) }) (hsz : vs.length ≤ sizeLine) :
    wpAny (model prog w) A (collect (.ref l)) Q E s := by
  obtain ⟨o, ho, hc, n, hd⟩ := id hl
  unfold collect
  refine wpAny_bind (wpAny_runValue (codeAny_builtin entry_proto_collect' ?_))
  show wpAny _ _ (do again (.builtin "list.__iadd__" ⟨[← newList [], .ref l], []⟩)) _ _ s
  refine wpAny_bind (wpAny_newList (wpAny_pure ⟨Code.quiet_builtin _ (by decide +kernel), codeAny_builtin entry_list_iadd' ?_⟩))
  show wpAny _ _ (Builtin.List.listExtendWith (.ref s.heap.objs.size) (.ref l) (.ref s.heap.objs.size)) _ _ { s with heap := s.heap.push (seqObj "list" #[] 0) }
  unfold Builtin.List.listExtendWith
  have ho' : (s.heap.push (seqObj "list" #[] 0)).get? l = some o := Heap.get?_push_of_some _ ho
  refine wpAny_bind (wpAny_typeOf (T := "tuple") ⟨o, ho', hc⟩ ?_)
  have ht : (Value.type "tuple" == Value.type "tuple") = true := by rfl
  rw [if_pos (by rw [ht]; simp)]
  refine wpAny_bind (listItems_at ho' hd ?_)
  refine wpAny_bind (listItems_at (xs := #[]) (n := 0) (Heap.get?_push_size _ rfl) rfl ?_)
  rw [if_neg (by simp)]
  refine wpAny_bind (listUpdate_at (xs := #[]) (n := 0) (Heap.get?_push_size _ rfl) rfl ?_ (Nat.zero_le _) (by show (#[] ++ vs.toArray).size ≤ sizeLine + 1; simp only [Array.size_append, List.size_toArray, List.length_nil]; omega))
  refine wpAny_pure ?_
  show wpAny (model prog w) A (do
      let o ← load s.heap.objs.size
      match o.data with
      | .seq xs _ => pure xs.toList
      | _ => unsupported "internal:collect") Q E { s with heap := (s.heap.push (seqObj "list" #[] 0)).update s.heap.objs.size (Obj.mapSeq (· ++ vs.toArray)) }
  refine wpAny_bind (wpAny_load (get?_update_seq (Heap.get?_push_size _ rfl) _) ?_)
  show wpAny _ _ (pure ((#[] : Array Value) ++ vs.toArray).toList) Q E _
  rw [show ((#[] : Array Value) ++ vs.toArray).toList = vs by simp]
  exact wpAny_pure h
theorem gx_sorted_ordT {l : Addr} {vs : List Value} {ltv : Value → Value → Bool} {Q : Value → Shared → Prop} (O : Swo ltv) (hl : s.heap.IsTuple l vs.toArray) (hz : vs.length ≤ sizeLine)
    (hS : 2 ≤ vs.length → ∀ (h₁ : Heap) (a : Addr), h₁.get? a = some (seqObj "list" vs.toArray 0) → (∀ b o, s.heap.get? b = some o → b ≠ a ∧ h₁.get? b = some o) → SortableO prog w A.in1.in1 { s with heap := h₁ } a vs ltv)
    (h : ∀ out : List Value, Srtd ltv out → Stb ltv out vs → Q (.ref (s.heap.objs.size + 1)) { s with heap := sortedAll s.heap vs out.toArray }) :
    wpAny (model prog w) A (call (.builtin "sorted") [.ref l]) Q E s := by
  refine Calls.call_function_entry kind_sorted plain_sorted entry_sorted (args_sorted1 _) ?_
  unfold Builtin.«sorted»
  refine wpAny_bind (m := checkCount "sorted" 1 1 _) (wpAny_pure ?_)
  refine wpAny_bind (gx_collect_tuple hl ?_ hz)
  refine wpAny_bind (wpAny_newList ?_ hz)
  have hsz : ((s.heap.push (seqObj "list" #[] 0)).update s.heap.objs.size (Obj.mapSeq (· ++ vs.toArray))).objs.size = s.heap.objs.size + 1 := by
    rw [Heap.size_update, size_push']
  have hoL : (((s.heap.push (seqObj "list" #[] 0)).update s.heap.objs.size (Obj.mapSeq (· ++ vs.toArray))).push (seqObj "list" vs.toArray 0)).get? (s.heap.objs.size + 1) = some (seqObj "list" vs.toArray 0) := by
    rw [← hsz]; exact Heap.get?_push_size _ rfl
  have keep : ∀ b o, s.heap.get? b = some o → b ≠ s.heap.objs.size + 1 ∧ (((s.heap.push (seqObj "list" #[] 0)).update s.heap.objs.size (Obj.mapSeq (· ++ vs.toArray))).push (seqObj "list" vs.toArray 0)).get? b = some o := fun b o q => by
    have hlt : b < s.heap.objs.size := Heap.lt_size q
    refine ⟨Nat.ne_of_lt (Nat.lt_succ_of_lt hlt), Heap.get?_push_of_some _ ?_⟩
    rw [Heap.get?_update_ne _ _ _ _ (Nat.ne_of_lt hlt)]
    exact Heap.get?_push_of_some _ q
  show wpAny _ _ _ _ _ { s with heap := ((s.heap.push (seqObj "list" #[] 0)).update s.heap.objs.size (Obj.mapSeq (· ++ vs.toArray))).push (seqObj "list" vs.toArray 0) }
  rw [hsz]
  refine wpAny_bind (wpAny_holding (wpAny_call_entry slot_list_sort ⟨_, hoL, rfl⟩ entry_list_sort (list_sort_ord O hoL hz (fun h2 => hS h2 _ _ hoL keep) fun out hs hb => ⟨_, rfl, ?_⟩) (args_list_sort _)))
  exact wpAny_pure ⟨_, rfl, h out hs hb⟩
end
end PySem
namespace GX
open PySem PySem.Spec PyProof.Rows L2
/-- sorted(list or tuple of ints), any number of them -/
def rSortedIA (K : PySem.W.Frag) : List V → Hp → VK → Prop := fun vs H Q => ∃ (a : Addr) (ns : List Int), vs = [V.ref a] ∧ (SqL K H a (ns.map V.int) ∨ SqT K H a (ns.map V.int)) ∧
  ∀ (ns' : List Int) (p : Addr), ns'.Perm ns → ns'.Pairwise (· ≤ ·) → H p = none → Q (.ref p) (upd H p (.lst (ns'.map V.int)))
theorem cr_sortedIA {X : Cx} : CallR X (.builtin "sorted") (rSortedIA X.K) := by
  intro pins s σ H vs us Q I r h
  obtain ⟨a, ns, rfl, hs, q⟩ := h
  rcases hs with hs | hs
  · exact cr_sortedI pins s σ H _ us Q I r ⟨a, ns, rfl, hs, q⟩
  · obtain ⟨its, rv, hl, hz⟩ := I.tuple hs
    rw [Vals.ref1 r]
    have hi := rv.ints
    refine gx_sorted_ordT SrtO.swo_int (show s.heap.IsTuple a its.toArray from hl) (by rw [← rv.length]; exact hz) (fun h2 h₁ a' _ _ => SrtO.ints_sortable hi h2) fun out h1 h2 => ?_
    obtain ⟨k1, k2, k3⟩ := SrtO.ints_out hi h1 h2
    obtain ⟨ep, he'⟩ := PyProof.Rows.sortedAll_at s.heap its out.toArray
    have hlen : ((out.map SrtO.iv).map V.int).length ≤ sizeLine := by
      rw [List.length_map, k2.length_eq]
      rw [List.length_map] at hz
      exact hz
    exact ⟨.ref _, upd H (s.heap.objs.size + 1) (.lst ((out.map SrtO.iv).map V.int)), I.laid (t' := s.toks) (fun _ _ => PyProof.Rows.sortedAll_old) (Nat.le_succ _) ⟨hlen, out, ep, vals_of_ints k1, he'⟩, rfl, q _ _ k2 k3 (I.hok.fresh (Nat.le_succ _))⟩
end GX

set_option Elab.async false
set_option linter.all false
set_option maxRecDepth 100000
set_option maxHeartbeats 4000000
namespace PySem
theorem gx_tuple_mul1 (l : Addr) (items : Array Value) (n : Nat) (dd : Option Addr) (sl : Array (Option Value)) (u : Tok) :
    Meets (Builtin.«tuple.__mul__» { pos := [.ref l, .int 1 u] }) fun _ R s => s.heap.get? l = some { cls := .type "tuple", dict := dd, data := .seq items n, slots := sl } ∧ R (.ok (.ret (.ref l))) s :=
  .of_wp fun prog w A R s h => by
    obtain ⟨hp, g, d, tk, os⟩ := s; obtain ⟨h1, h⟩ := h
    wp_walk
    exact ⟨_, rfl, h⟩
theorem gx_tuple_mul0 (l : Addr) (items : Array Value) (n : Nat) (dd : Option Addr) (sl : Array (Option Value)) (u : Tok) :
    Meets (Builtin.«tuple.__mul__» { pos := [.ref l, .int 0 u] }) fun _ R s => s.heap.get? l = some { cls := .type "tuple", dict := dd, data := .seq items n, slots := sl } ∧ items.isEmpty = false ∧ R (.ok (.ret (Value.ref s.heap.objs.size))) { s with heap := s.heap.push { cls := Value.type "tuple", data := Data.seq #[] }, toks := s.toks } :=
  .of_wp fun prog w A R s h => by
    obtain ⟨hp, g, d, tk, os⟩ := s; obtain ⟨h1, h2, h⟩ := h
    wp_walk
    exact ⟨_, rfl, h⟩
end PySem
namespace L2
open PySem PySem.Spec PyProof.Rows
/-- tuple * k, k from 0 on -/
def rRepA (K : PySem.W.Frag) : R2 := fun x y H Q => ∃ l k xs, x = .ref l ∧ y = .int k ∧ SqT K H l xs ∧ xs ≠ [] ∧ 0 ≤ k ∧ k ≤ 1000 ∧ xs.length ≤ 1000 ∧ (k = 1 → Q (.ref l) H) ∧ (k ≠ 1 → ∀ p, H p = none → Q (.ref p) (upd H p (.tup (List.replicate k.toNat xs).flatten)))
section
variable {X : Cx}
theorem op_repA : OpR X (binaryOp .Mult) (rRepA X.K) := by
  intro pins s σ H x y v u Q I rx ry h
  obtain ⟨l, k, xs, rfl, rfl, hT, hne, h1, h2, hz, q1, q2⟩ := h
  by_cases k2 : 2 ≤ k
  · exact op_repT pins s σ H _ _ v u Q I rx ry ⟨l, k, xs, rfl, rfl, hT, hne, k2, h2, hz, q2 (by omega)⟩
  cases rx
  obtain ⟨t, rfl⟩ := ry
  obtain ⟨its, r, ⟨⟨cls, dd, data, sl⟩, ho, hc, n, hd⟩, hs⟩ := I.tuple hT
  simp only at hc hd
  subst hc hd
  have hle : its.length = xs.length := r.length.symm
  have hn : its ≠ [] := fun e => hne (by
    rw [e] at hle
    exact List.eq_nil_of_length_eq_zero hle.symm)
  have hi : its.toArray.isEmpty = false := by
    cases its with
    | nil => exact absurd rfl hn
    | cons a b => rfl
  by_cases k1 : k = 1
  · subst k1
    refine wpAny_binaryOp_repeat_ref (T := "tuple") (U := "int") (by decide) ⟨_, ho, rfl⟩ (fun s' => typeIs_int s' 1 t) noFill_tuple_mul F.fills_int_mul F.slot_int_rmul repeat_tuple F.slot_int_index.lookup
      (call_meets F.slot_int_rmul (typeIs_int s 1 t) F.entry_int_rmul (F.args_int_rmul_2 _ _) (int_rmul_tuple 1 t l its.toArray n dd sl)
        ⟨ho, rfl, ⟨_, ho, rfl⟩, call_meets F.slot_tuple_mul ⟨_, ho, rfl⟩ F.entry_tuple_mul (F.args_tuple_mul_2 _ _) (gx_tuple_mul1 l its.toArray n dd sl t) ⟨ho, ?_⟩⟩)
    exact ⟨.ref l, H, I, rfl, q1 rfl⟩
  · have k0 : k = 0 := by omega
    subst k0
    refine wpAny_binaryOp_repeat_ref (T := "tuple") (U := "int") (by decide) ⟨_, ho, rfl⟩ (fun s' => typeIs_int s' 0 t) noFill_tuple_mul F.fills_int_mul F.slot_int_rmul repeat_tuple F.slot_int_index.lookup
      (call_meets F.slot_int_rmul (typeIs_int s 0 t) F.entry_int_rmul (F.args_int_rmul_2 _ _) (int_rmul_tuple 0 t l its.toArray n dd sl)
        ⟨ho, rfl, ⟨_, ho, rfl⟩, call_meets F.slot_tuple_mul ⟨_, ho, rfl⟩ F.entry_tuple_mul (F.args_tuple_mul_2 _ _) (gx_tuple_mul0 l its.toArray n dd sl t) ⟨ho, hi, ?_⟩⟩)
    refine ⟨.ref s.heap.objs.size, _, I.laid (t' := s.toks) (o := .tup []) (fun b ob q => Heap.get?_push_of_some _ q) (Nat.le_refl _) ?_, rfl, q2 k1 _ (I.hok.fresh (Nat.le_refl _))⟩
    exact ⟨Nat.zero_le _, [], .nil, IsTup.new _ _⟩
end
end L2

set_option Elab.async false
set_option linter.all false
set_option maxRecDepth 100000
set_option maxHeartbeats 4000000
namespace L2
open PySem PySem.Spec PyProof.Rows
section
variable {X : Cx} {CX : CXT} {k : Nat} {f C : Addr} {fd : FuncData} {ps ks : List Str} {sp : Sp} {E : St → XK} {x m : Str} {p pos apos : Pos} {e o : Expr} {es : List Expr} {kws : List Keyword} {te ta : TE} {t tk : TA} {g : List Value → List Value → List Value} {gV : List V → List V → List V}
/-- a call with keywords inside a try -/
def tCallKS (sp : Sp) (gV : List V → List V → List V) (E : St → XK) (t tk : TA) : TE := fun σ H Q => t σ H fun vs H1 => tk σ H1 fun zs H2 => sp (gV vs zs) H2 Q (E σ)
theorem run_fnks {pins : List (Addr × Obj)} {σ : St} {H : Hp} {s : Shared} {Q : VK} {us ws : List Value} {vs zs : List V} (F : FnOk X.prog X.w X.K X.mg X.base CX k f fd ps sp) (hr : Room k X.A) (hb : KBinds X.K fd ps ks g gV) (hx : PassesAt CX X σ (E σ))
    (I : Inv X pins σ H s) (r : Vals vs us) (rz : Vals zs ws) (h : sp (gV vs zs) H Q (E σ)) : wpAny (model X.prog X.w) X.A (call (.ref f) us (ks.zip ws)) (EP X pins σ Q) X.xe s := by
  have r2 := hb.rel r rz
  have hl : (g us ws).length = ps.length := by rw [← r2.length]; exact F.len _ _ _ _ h
  refine wpAny_call (codeAny_mono (F.run X.A X.stack s H ⟨us, ks.zip ws⟩ (g us ws) (gV vs zs) Q (E σ) hr I.env0 (hb.to s us ws I.kIn hl) r2 h) fun r s' hq => ?_)
  cases r with
  | error e => exact hx pins H s e s' I hq
  | ok fl =>
    cases fl with
    | ret u => exact I.after hq
    | next => exact False.elim hq
    | brk => exact False.elim hq
    | cont => exact False.elim hq
theorem pe_callKS (F : FnOk X.prog X.w X.K X.mg X.base CX k f fd ps sp) (hr : Room k X.A) (hg : Gl X x) (hm : X.mg x = some (.ref f)) (hk : PySem.W.keepIn X.K (.ref f) = true) (hb : KBinds X.K fd ps ks g gV) (hx : ∀ σ, PassesAt CX X σ (E σ))
    (ha : PA X (e :: es) t) (hkw : PK X kws tk) (hall : (backToKw pos (keywordEach kws X.env)).all (·.1.isSome) = true := by rfl) (hks : (backToKw pos (keywordEach kws X.env)).filterMap (·.1) = ks := by rfl)
    (hdb : (x == ("__debug__" : Str)) = false := by decide) (he : starEach (e :: es) X.env = (false, eval e X.env) :: starEach es X.env := by rfl)
    (hpl : ((backTo pos (starEach (e :: es) X.env)).any (·.1) || (backToKw pos (keywordEach kws X.env)).any (·.1.isNone)) = false := by rfl) :
    PE X (.Call (.Name x p) (e :: es) kws pos) (tCallKS sp gV E t tk) := by
  refine ⟨fun pins s σ H Q I h => ?_⟩
  refine wpAny_Call_Name_kw (ld_glob I hg hm ?_ hdb)
  refine PySem.W.callWith_KW (h₀ := X.base) I.ok.mod.kin hk hall (thn (ha.run pos pins s σ H _ I h) fun us s1 ⟨vs, H1, I1, r, q⟩ => ?_) hpl he
  refine thn (hkw.run pos pins s1 σ H1 _ I1 q) fun ws s2 ⟨zs, H2, I2, rz, q2⟩ => ⟨I2.kIn, ?_⟩
  rw [hks]
  exact run_fnks F hr hb (hx σ) I2 r rz q2
end
end L2

set_option Elab.async false
set_option linter.all false
set_option maxRecDepth 100000
set_option maxHeartbeats 4000000
/-! list(enumerate(v)) over what is drawn -/
namespace PySem
theorem gx_no_len : typeLookup (.type "enumerate") "__len__" = pure none := am_miss_of_fast (by decide +kernel)
theorem gx_no_hint : typeLookup (.type "enumerate") "__length_hint__" = pure none := am_miss_of_fast (by decide +kernel)
section
variable {prog : Program} {w : World} {A : Around} {E : Value → Shared → Prop} {s : Shared}
variable {e it S : Addr} {fp : List Addr} {n : Nat} {R : Nat → Value → Prop} {St : Nat → Heap → Prop}
theorem gx_next_held {T : Addr} {i : Nat} {old : Value} {f : Bool} {oT : Obj} {Q : Value → Shared → Prop} (D : Draws prog w A it fp n R St)
    (he : IsEnumHeld s.heap e it i old T f) (oT1 : s.heap.get? T = some oT) (t1 : T ≠ e) (t2 : T ≠ it) (st : St i s.heap) (lt : i < n) (ne : e ≠ it) (nf : e ∉ fp)
    (hQ : ∀ x h' tk, R i x → IsEnumHeld h' e it ((i : Int) + 1) old T true → St (i + 1) h' → h'.get? s.heap.objs.size = some { cls := .type "tuple", data := .seq #[.int i tk, x] } → h'.objs.size = s.heap.objs.size + 1 →
      (∀ b o, b ≠ e → b ≠ it → s.heap.get? b = some o → h'.get? b = some o) → Q (.ref s.heap.objs.size) { s with heap := h', toks := tk + 1 }) :
    wpAny (model prog w) A (Builtin.«enumerate.__next__» ⟨[.ref e], []⟩) (fun fin s' => ∃ v, fin = .done (.ret v) ∧ Q v s') E s := by
  obtain ⟨hp, gg, dd, tk0, os⟩ := s
  show wpAny _ _ (field (.ref e) 2 >>= _) _ _ _
  refine wpAny_bind (wpAny_field he rfl (x := .ref it) rfl ?_)
  refine wpAny_bind (D.item i _ _ _ lt st fun x ha tk rx sa ka => ?_)
  have ka : Heap.SameBut it hp ha := ka
  have ea : IsEnumHeld ha e it i old T f := (ka.2 e ne).trans he
  show wpAny _ _ (field (.ref e) 3 >>= _) _ _ (⟨ha, gg, dd, tk, os⟩ : Shared)
  refine wpAny_bind (wpAny_field ea rfl (x := rawInt i) rfl ?_)
  show wpAny _ _ (field (.ref e) 4 >>= _) _ _ (⟨ha, gg, dd, tk, os⟩ : Shared)
  refine wpAny_bind (wpAny_field ea rfl (x := .none) rfl ?_)
  show wpAny _ _ (mkInt i >>= _) _ _ (⟨ha, gg, dd, tk, os⟩ : Shared)
  refine wpAny_bind (wpAny_mkInt ?_)
  show wpAny _ _ (setField (.ref e) 3 (rawInt ((i : Int) + 1)) >>= _) _ _ (⟨ha, gg, dd, tk + 1, os⟩ : Shared)
  refine wpAny_bind (wpAny_setField_rec ea (by simp) fun hb eb kb => ?_)
  have kb : Heap.SameBut e ha hb := kb
  have eb : IsEnumHeld hb e it ((i : Int) + 1) old T f := eb
  show wpAny _ _ (setField (.ref e) 4 .none >>= _) _ _ (⟨hb, gg, dd, tk + 1, os⟩ : Shared)
  refine wpAny_bind (wpAny_setField_rec eb (by simp) fun hc ec kc => ?_)
  have kc : Heap.SameBut e hb hc := kc
  have ec : IsEnumHeld hc e it ((i : Int) + 1) old T f := ec
  show wpAny _ _ (newTuple [.int i tk, x] >>= _) _ _ (⟨hc, gg, dd, tk + 1, os⟩ : Shared)
  refine wpAny_bind (wpAny_newTuple ?_)
  have z1 : hc.objs.size = hp.objs.size := (kc.1.trans kb.1).trans ka.1
  have le : e < hp.objs.size := Heap.lt_size he
  have ed : IsEnumHeld (hc.push { cls := .type "tuple", data := .seq #[.int i tk, x] }) e it ((i : Int) + 1) old T f := Heap.get?_push_of_some _ ec
  have td : (hc.push { cls := .type "tuple", data := .seq #[.int i tk, x] }).get? hp.objs.size = some { cls := .type "tuple", data := .seq #[.int i tk, x] } := by
    rw [← z1]
    exact Heap.get?_push_size _ rfl
  have zd : (hc.push { cls := .type "tuple", data := .seq #[.int i tk, x] }).objs.size = hp.objs.size + 1 := by rw [Heap.size_push, z1]
  have kd : ∀ b o, b ≠ e → b ≠ it → hp.get? b = some o → (hc.push { cls := .type "tuple", data := .seq #[.int i tk, x] }).get? b = some o := fun b o n1 n2 q =>
    Heap.get?_push_of_some _ (kc.extBut b o n1 (kb.extBut b o n1 (ka.extBut b o n2 q)))
  have sd : St (i + 1) (hc.push { cls := .type "tuple", data := .seq #[.int i tk, x] }) := D.frame _ _ _ sa fun b hb' o q => by
    have n1 : b ≠ e := fun z => nf (z ▸ hb')
    exact Heap.get?_push_of_some _ (kc.extBut b o n1 (kb.extBut b o n1 q))
  generalize hc.push { cls := .type "tuple", data := .seq #[.int i tk, x] } = hd at ed td zd kd sd
  show wpAny _ _ (Builtin.SmallTypes.ownedTupleIsFree (.ref e) >>= _) _ _ (⟨hd, gg, dd, tk + 1, os⟩ : Shared)
  rw [z1]
  refine wpAny_bind (wpAny_tupleHeld_enum (s := ⟨hd, gg, dd, tk + 1, os⟩) ed (kd T oT t1 t2 oT1) fun hf ef kf => ?_)
  have kf : Heap.SameBut e hd hf := kf
  simp only [Bool.false_eq_true, if_false]
  refine wpAny_pure ⟨_, rfl, hQ x hf tk rx ef (D.frame _ _ _ sd fun b hb' o q => kf.extBut b o (fun z => nf (z ▸ hb')) q) (kf.extBut _ _ (Nat.ne_of_gt le) td) ?_ fun b o n1 n2 q => kf.extBut b o n1 (kd b o n1 n2 q)⟩
  show hf.objs.size = hp.objs.size + 1
  rw [kf.1, zd]
/-- the enumerate object ahead of turn i: fresh, or with a tuple still out -/
def EnSt (St : Nat → Heap → Prop) (h : Heap) (e it S : Addr) (i : Nat) : Prop := St i h ∧ ((∃ old, IsEnum h e it i old) ∨ ∃ old T f oT, IsEnumHeld h e it i old T f ∧ h.get? T = some oT ∧ T ≠ e ∧ T ≠ it ∧ T ≠ S)
theorem EnSt.keep {h h' : Heap} {i : Nat} (st : EnSt St h e it S i) (D : ∀ i h h', St i h → (∀ b ∈ fp, ∀ o, h.get? b = some o → h'.get? b = some o) → St i h') (nS : S ∉ fp) (nE : e ≠ S) (k : ∀ b o, b ≠ S → h.get? b = some o → h'.get? b = some o) : EnSt St h' e it S i := by
  obtain ⟨st, q⟩ := st
  refine ⟨D _ _ _ st fun b hb o y => k b o (fun z => nS (z ▸ hb)) y, ?_⟩
  rcases q with ⟨old, q⟩ | ⟨old, T, f, oT, q, y, r1, r2, r3⟩
  · exact .inl ⟨old, k e _ nE q⟩
  · exact .inr ⟨old, T, f, oT, k e _ nE q, k T oT r3 y, r1, r2, r3⟩
theorem gx_item {i : Nat} {Q : Option Value → Shared → Prop} (D : Draws prog w A.in1 it fp n R St) (ne : e ≠ it) (nf : e ∉ fp) (hS : S < s.heap.objs.size) (st : EnSt St s.heap e it S i) (lt : i < n)
    (hQ : ∀ x h' tk, R i x → EnSt St h' e it S (i + 1) → h'.get? s.heap.objs.size = some { cls := .type "tuple", data := .seq #[.int i tk, x] } → (∀ b o, b ≠ e → b ≠ it → s.heap.get? b = some o → h'.get? b = some o) → Q (some (.ref s.heap.objs.size)) { s with heap := h', toks := tk + 1 }) :
    wpAny (model prog w) A (pyNext (.ref e)) Q E s := by
  obtain ⟨st, q⟩ := st
  have ec : ((i + 1 : Nat) : Int) = (i : Int) + 1 := by omega
  have lit : it < s.heap.objs.size := let ⟨_, y⟩ := D.live _ _ st; Heap.lt_size y
  rcases q with ⟨old, q⟩ | ⟨old, T, f, oT, q, y, r1, r2, r3⟩
  · have le : e < s.heap.objs.size := Heap.lt_size q
    exact wpAny_pyNext_enum_itemC D q st lt ne nf fun x h' tk rx ho st' hT hz hk => hQ x h' tk rx ⟨st', .inr ⟨x, s.heap.objs.size, false, _, by rw [ec]; exact ho, hT, Nat.ne_of_gt le, Nat.ne_of_gt lit, Nat.ne_of_gt hS⟩⟩ hT hk
  · have hy : s.TypeIs (.ref e) "enumerate" := ⟨_, q, rfl⟩
    unfold pyNext
    refine wpAny_bind (wpAny_attempt (wpAny_callSpecial?_slot (name := Str.ofString "__next__") hy F.slot_enumerate_next (wpAny_call_entry F.slot_enumerate_next hy F.entry_enumerate_next
      (gx_next_held D q y r1 r2 st lt ne nf fun x h' tk rx ho st' hT hz hk => wpAny_pure (hQ x h' tk rx ⟨st', .inr ⟨old, T, true, oT, by rw [ec]; exact ho, hk T oT r1 r2 y, r1, r2, r3⟩⟩ hT hk)) (F.args_enumerate_next_1 _))))
theorem gx_done {Q : Option Value → Shared → Prop} (D : Draws prog w A.in1 it fp n R St) (st : EnSt St s.heap e it S n) (hQ : ∀ h', Heap.ExtBut it s.heap h' → Q none { s with heap := h' }) : wpAny (model prog w) A (pyNext (.ref e)) Q E s := by
  obtain ⟨st, q⟩ := st
  rcases q with ⟨old, q⟩ | ⟨old, T, f, oT, q, y, r1, r2, r3⟩
  · exact wpAny_pyNext_enum_endD D q st hQ
  · have hy : s.TypeIs (.ref e) "enumerate" := ⟨_, q, rfl⟩
    unfold pyNext
    refine wpAny_bind (wpAny_attempt (wpAny_callSpecial?_slot (name := Str.ofString "__next__") hy F.slot_enumerate_next (wpAny_call_entry F.slot_enumerate_next hy F.entry_enumerate_next ?_ (F.args_enumerate_next_1 _))))
    show wpAny _ _ (field (.ref e) 2 >>= _) _ _ _
    refine wpAny_bind (wpAny_field q rfl (x := .ref it) rfl ?_)
    refine wpAny_bind (D.done _ _ _ st fun h' x he' hx' => ?_)
    obtain ⟨o, ho, hc⟩ := hx'
    exact wpAny_bind (wpAny_isInstance (T := "StopIteration") (b := true) ⟨o, ho, hc⟩ isSubtype_stop (wpAny_pure (hQ _ he')))
/-- the tuples given out so far -/
structure EnG (R : Nat → Value → Prop) (lo : Addr) (h : Heap) (as : List Addr) : Prop where
  nd : as.Nodup
  above : ∀ a ∈ as, lo < a
  pairs : ∀ (j : Nat) (a : Addr), as[j]? = some a → ∃ tk x, R j x ∧ h.get? a = some { cls := .type "tuple", data := .seq #[.int j tk, x] }
end
end PySem

set_option Elab.async false
set_option linter.all false
set_option maxRecDepth 100000
set_option maxHeartbeats 4000000
namespace PySem
section
variable {prog : Program} {w : World} {A : Around} {s : Shared} {Z : Result → Shared → Prop}
variable {e it S : Addr} {fp : List Addr} {n : Nat} {R : Nat → Value → Prop} {St : Nat → Heap → Prop}
/-- the list S is being filled from e: i tuples are out -/
structure EnAt (St : Nat → Heap → Prop) (R : Nat → Value → Prop) (e it S : Addr) (h0 h : Heap) (i : Nat) (acc : Array Value) (c : Nat) (as : List Addr) : Prop where
  sh : h.get? S = some { cls := .type "list", dict := none, data := .seq acc c, slots := #[] }
  ac : acc.toList = as.map Value.ref
  ln : as.length = i
  gr : EnG R S h as
  kp : ∀ b o, b ≠ S → b ≠ e → b ≠ it → h0.get? b = some o → h.get? b = some o
theorem en_fill (hi : it < S) (he : e < S) (ne : e ≠ it) (nf : e ∉ fp) (nS : S ∉ fp) (hn : n ≤ sizeLine) (D : Draws prog w A.in1.in1 it fp n R St) (res : Value) {h0 : Heap}
    (hZ : ∀ h' tk acc c as, EnAt St R e it S h0 h' n acc c as → Z (.ok (.ret res)) { s with heap := h', toks := tk }) :
    ∀ (k i : Nat) (h : Heap) (tk c : Nat) (acc : Array Value) (as : List Addr), n - i = k → i ≤ n → EnSt St h e it S i → EnAt St R e it S h0 h i acc c as →
      codeAny (model prog w) A (.builtin "list.extend.loop" ⟨[.ref S, .ref e, res], []⟩) Z { s with heap := h, toks := tk } := by
  intro k
  induction k with
  | zero =>
    intro i h tk c acc as e0 le st at0
    obtain rfl : i = n := by omega
    refine codeAny_builtin F.entry_extend_loop ?_
    rw [Around.under_plainId F.plain_extend_loop _]
    show wpAny _ A.in1 (pyNext (.ref e) >>= _) _ _ _
    refine wpAny_bind (gx_done (s := { s with heap := h, toks := tk }) D st fun h' ex => ?_)
    exact wpAny_pure (hZ h' tk acc c as ⟨ex S _ (Nat.ne_of_gt hi) at0.sh, at0.ac, at0.ln, ⟨at0.gr.nd, at0.gr.above, fun j a q => let ⟨t, x, z1, z2⟩ := at0.gr.pairs j a q; ⟨t, x, z1, ex a _ (Nat.ne_of_gt (Nat.lt_trans hi (at0.gr.above a (List.mem_of_getElem? q)))) z2⟩⟩, fun b o z1 z2 z3 z4 => ex b o z3 (at0.kp b o z1 z2 z3 z4)⟩)
  | succ k more =>
    intro i h tk c acc as e0 le st at0
    have lt : i < n := by omega
    have z0 : acc.size = i := by rw [← Array.length_toList, at0.ac, List.length_map, at0.ln]
    have lS : S < h.objs.size := Heap.lt_size at0.sh
    refine codeAny_builtin F.entry_extend_loop ?_
    rw [Around.under_plainId F.plain_extend_loop _]
    show wpAny _ A.in1 (pyNext (.ref e) >>= _) _ _ _
    refine wpAny_bind (gx_item (s := { s with heap := h, toks := tk }) D ne nf lS st lt fun x h1 tk1 rx st1 hT k1 => ?_)
    dsimp only at hT k1 ⊢
    have sh1 := k1 S _ (Nat.ne_of_gt he) (Nat.ne_of_gt hi) at0.sh
    have k2 : ∀ b o, b ≠ S → h1.get? b = some o → (h1.update S (Obj.mapSeq (·.push (Value.ref h.objs.size)))).get? b = some o := fun b o q z => (Heap.get?_update_other _ _ (Ne.symm q)).trans z
    have k3 : ∀ b o, b ≠ S → b ≠ e → b ≠ it → h.get? b = some o → (h1.update S (Obj.mapSeq (·.push (Value.ref h.objs.size)))).get? b = some o := fun b o q1 q2 q3 z => k2 b o q1 (k1 b o q2 q3 z)
    show wpAny _ A.in1 (updateSeq S (·.push (Value.ref h.objs.size)) >>= _) _ _ _
    refine wpAny_bind (wpAny_updateSeq sh1 rfl (wpAny_pure ⟨plainId_quiet F.plain_extend_loop _, more (i + 1) _ _ _ (acc.push (Value.ref h.objs.size)) (as ++ [h.objs.size]) (by omega) lt (st1.keep D.frame nS (Nat.ne_of_lt he) k2) ⟨Heap.get?_update_self _ sh1 rfl, ?_, ?_, ⟨?_, ?_, ?_⟩, ?_⟩⟩) (by rw [z0]; omega) (by show (acc.push (Value.ref h.objs.size)).size ≤ sizeLine + 1; rw [Array.size_push, z0]; omega))
    · rw [Array.toList_push, at0.ac, List.map_append]; rfl
    · rw [List.length_append, at0.ln]; rfl
    · refine List.nodup_append.mpr ⟨at0.gr.nd, List.nodup_cons.mpr ⟨by simp, List.nodup_nil⟩, fun a ha b hb => ?_⟩
      obtain ⟨j, hj⟩ := List.mem_iff_getElem?.mp ha
      obtain ⟨_, _, _, z⟩ := at0.gr.pairs j a hj
      rw [List.mem_singleton.mp hb]
      exact Nat.ne_of_lt (Heap.lt_size z)
    · intro a ha
      rcases List.mem_append.mp ha with ha | ha
      · exact at0.gr.above a ha
      · rw [List.mem_singleton.mp ha]; exact lS
    · intro j b hj
      by_cases hl : j < as.length
      · rw [List.getElem?_append_left hl] at hj
        obtain ⟨t, y, z1, z2⟩ := at0.gr.pairs j b hj
        have ab := at0.gr.above b (List.mem_of_getElem? hj)
        exact ⟨t, y, z1, k3 b _ (Nat.ne_of_gt ab) (Nat.ne_of_gt (Nat.lt_trans he ab)) (Nat.ne_of_gt (Nat.lt_trans hi ab)) z2⟩
      · rw [List.getElem?_append_right (Nat.le_of_not_lt hl)] at hj
        have hj0 : j - as.length = 0 := by
          cases hd : j - as.length with
          | zero => rfl
          | succ m => rw [hd] at hj; simp at hj
        rw [hj0] at hj
        obtain rfl : h.objs.size = b := by simpa using hj
        obtain rfl : j = i := by have := at0.ln; omega
        exact ⟨tk1, x, rx, k2 _ _ (Nat.ne_of_gt lS) hT⟩
    · exact fun b o q1 q2 q3 z => k3 b o q1 q2 q3 (at0.kp b o q1 q2 q3 z)
theorem en_hint {Q : Bool → Shared → Prop} {E : Value → Shared → Prop} (ty : s.TypeIs (.ref e) "enumerate") (h : Q true s) : wpAny (model prog w) A (Builtin.List.listLengthHint (.ref e)) Q E s := by
  unfold Builtin.List.listLengthHint
  refine wpAny_bind (wpAny_specialOf ty gx_no_len ?_)
  show wpAny _ _ (specialOf (Value.ref e) (Str.ofString "__length_hint__") >>= _) _ _ _
  exact wpAny_bind (wpAny_specialOf ty gx_no_hint (wpAny_pure h))
theorem en_extend (hi : it < S) (he : e < S) (ne : e ≠ it) (nf : e ∉ fp) (nS : S ∉ fp) (hn : n ≤ sizeLine) (D : Draws prog w A.in1.in1 it fp n R St) (res : Value) {c0 : Nat} (sh : s.heap.get? S = some { cls := .type "list", data := .seq #[] c0 }) (q : IsEnum s.heap e it 0 .none) (st : St 0 s.heap)
    (hZ : ∀ h' tk acc c as, EnAt St R e it S s.heap h' n acc c as → Z (.ok (.ret res)) { s with heap := h', toks := tk }) :
    wpAny (model prog w) A.in1 (Builtin.List.listExtendWith (.ref S) (.ref e) res)
      (fun fin s' => match fin with | .done f => Z (.ok f) s' | .again c' => c'.quiet = true ∧ codeAny (model prog w) A c' Z s') (fun x s' => Z (.error x) s') s := by
  have ty : s.TypeIs (.ref e) "enumerate" := ⟨_, q, rfl⟩
  have n1 : Builtin.List.listSameRef (.ref S) (.ref e) = false := by simp [Builtin.List.listSameRef, Nat.ne_of_gt he]
  have n2 : (Value.type "enumerate" == Value.type "list") = false := by decide
  have n3 : (Value.type "enumerate" == Value.type "tuple") = false := by decide
  unfold Builtin.List.listExtendWith
  refine wpAny_bind (wpAny_typeOf ty ?_)
  simp only [n1, n2, n3, Bool.or_false, Bool.false_eq_true, if_false]
  refine wpAny_bind (wpAny_pyIter_enum q ?_)
  refine wpAny_bind (wpAny_holding (en_hint ty ?_))
  show wpAny _ A.in1 (rule "list.extend.makes-room" >>= fun _ => Builtin.List.listTouch (.ref S) >>= fun _ => again (.builtin "list.extend.loop" ⟨[.ref S, .ref e, res], []⟩)) _ _ _
  refine wpAny_bind (wpAny_rule ?_)
  refine wpAny_bind ?_
  show wpAny _ _ (updateSeq S (·.push .none) >>= fun _ => updateSeq S (·.pop)) _ _ _
  refine wpAny_bind (wpAny_updateSeq sh rfl ?_)
  have sh1 := Heap.get?_update_self (Obj.mapSeq (·.push Value.none)) sh rfl
  refine wpAny_updateSeq (hz := by seq_fits) sh1 rfl ?_
  have sh2 := Heap.get?_update_self (Obj.mapSeq (·.pop)) sh1 rfl
  have k : ∀ b o, b ≠ S → s.heap.get? b = some o → ((s.heap.update S (Obj.mapSeq (·.push Value.none))).update S (Obj.mapSeq (·.pop))).get? b = some o := fun b o y z => (Heap.get?_update_other _ _ (Ne.symm y)).trans ((Heap.get?_update_other _ _ (Ne.symm y)).trans z)
  have st1 : EnSt St s.heap e it S 0 := ⟨st, .inl ⟨.none, q⟩⟩
  exact wpAny_pure ⟨plainId_quiet F.plain_extend_loop _, en_fill (s := s) (h0 := s.heap) hi he ne nf nS hn D res hZ n 0 _ s.toks _ #[] [] (Nat.sub_zero _) (Nat.zero_le _) (st1.keep D.frame nS (Nat.ne_of_lt he) k) ⟨sh2, rfl, rfl, ⟨List.nodup_nil, (fun _ z => nomatch z), fun j a z => by simp at z⟩, fun b o y _ _ z => k b o y z⟩⟩
theorem en_init (hi : it < S) (he : e < S) (ne : e ≠ it) (nf : e ∉ fp) (nS : S ∉ fp) (hn : n ≤ sizeLine) (D : Draws prog w A.in1.in1 it fp n R St) (sh : s.heap.get? S = some { cls := .type "list", data := .seq #[] }) (q : IsEnum s.heap e it 0 .none) (st : St 0 s.heap)
    (hZ : ∀ h' tk acc c as, EnAt St R e it S s.heap h' n acc c as → Z (.ok (.ret .none)) { s with heap := h', toks := tk }) :
    wpAny (model prog w) A.in1 (Builtin.«list.__init__» ⟨[.ref S, .ref e], []⟩)
      (fun fin s' => match fin with | .done f => Z (.ok f) s' | .again c' => c'.quiet = true ∧ codeAny (model prog w) A c' Z s') (fun x s' => Z (.error x) s') s := by
  show wpAny _ _ (Builtin.List.listItems (.ref S) >>= fun old => Builtin.List.listUpdate (.ref S) (fun _ => #[]) >>= fun _ => letGo old.toList.reverse >>= fun _ => Builtin.List.listExtendWith (.ref S) (.ref e) .none) _ _ s
  refine wpAny_bind ?_
  unfold Builtin.List.listItems
  refine wpAny_bind (wpAny_seqItems sh rfl (wpAny_pure ?_))
  show wpAny _ _ (updateSeq S (fun _ => #[]) >>= fun _ => letGo (#[] : Array Value).toList.reverse >>= fun _ => Builtin.List.listExtendWith (.ref S) (.ref e) .none) _ _ s
  refine wpAny_bind (wpAny_updateSeq sh rfl ?_)
  have sh1 := Heap.get?_update_self (Obj.mapSeq (fun _ => (#[] : Array Value))) sh rfl
  have k : ∀ b o, b ≠ S → s.heap.get? b = some o → (s.heap.update S (Obj.mapSeq (fun _ => (#[] : Array Value)))).get? b = some o := fun b o y z => (Heap.get?_update_other _ _ (Ne.symm y)).trans z
  refine wpAny_bind (wpAny_letGo ?_)
  exact en_extend hi he ne nf nS hn D .none sh1 (k _ _ (Nat.ne_of_lt he) q) (D.frame _ _ _ st fun b hb o z => k b o (fun y => nS (y ▸ hb)) z) fun h' tk acc c as z => hZ h' tk acc c as ⟨z.sh, z.ac, z.ln, z.gr, fun b o y1 y2 y3 y => z.kp b o y1 y2 y3 (k b o y1 y)⟩
theorem en_call {Q : Value → Shared → Prop} {E : Value → Shared → Prop} (ne : e ≠ it) (nf : e ∉ fp) (hf : ∀ b ∈ fp, b < s.heap.objs.size) (hn : n ≤ sizeLine) (D : Draws prog w A.in1.in1.in1 it fp n R St) (q : IsEnum s.heap e it 0 .none) (st : St 0 s.heap)
    (hQ : ∀ h' tk acc c as, EnAt St R e it s.heap.objs.size s.heap h' n acc c as → Q (.ref s.heap.objs.size) { s with heap := h', toks := tk }) :
    wpAny (model prog w) A (call (.type "list") [.ref e]) Q E s := by
  refine callType_codes (Q₁ := fun v s1 => v = .ref s.heap.objs.size ∧ s1 = { s with heap := s.heap.push { cls := .type "list", data := .seq #[] } }) F.called_list (F.typeCall_list_1 _) F.entry_list_init (code_list_new _ ⟨rfl, rfl⟩) fun v s1 y => ?_
  obtain ⟨rfl, rfl⟩ := y
  have sh : (s.heap.push { cls := .type "list", data := .seq #[] }).get? s.heap.objs.size = some { cls := .type "list", data := .seq #[] } := Heap.get?_push_size _ rfl
  have lit : it < s.heap.objs.size := let ⟨_, y⟩ := D.live _ _ st; Heap.lt_size y
  refine ⟨⟨_, sh, rfl⟩, F.args_list_init_2 _ _, en_init (A := A.in1) lit (Heap.lt_size q) ne nf (fun y => Nat.lt_irrefl _ (hf _ y)) hn D sh (Heap.get?_push_of_some _ q) (D.frame _ _ _ st fun b _ o z => Heap.get?_push_of_some _ z) fun h' tk acc c as z => ?_⟩
  exact ⟨rfl, hQ h' tk acc c as ⟨z.sh, z.ac, z.ln, z.gr, fun b o y1 y2 y3 y => z.kp b o y1 y2 y3 (Heap.get?_push_of_some _ y)⟩⟩
end
end PySem

set_option Elab.async false
set_option linter.all false
set_option maxRecDepth 100000
set_option maxHeartbeats 4000000
namespace GX
open PySem PySem.Spec PyProof.Rows L2
/-- the pairs (j, x) at their addresses -/
def putE : Hp → Nat → List Addr → List V → Hp
  | H, j, a :: as, x :: xs => putE (upd H a (.tup [.int (j : Nat), x])) (j + 1) as xs
  | H, _, _, _ => H
theorem putE_off {b : Addr} : ∀ (as : List Addr) (xs : List V) (H : Hp) (j : Nat), b ∉ as → putE H j as xs b = H b
  | [], _, _, _, _ => rfl
  | _ :: _, [], _, _, _ => rfl
  | a :: as, x :: xs, H, j, q => by
    show putE (upd H a _) (j + 1) as xs b = H b
    rw [putE_off as xs _ _ (fun z => q (List.mem_cons_of_mem _ z)), upd_ne (fun z => q (by rw [z]; exact List.mem_cons_self))]
theorem putE_on : ∀ (as : List Addr) (xs : List V) (H : Hp) (j : Nat), as.length = xs.length → as.Nodup → ∀ i t, as[i]? = some t → ∃ x, xs[i]? = some x ∧ putE H j as xs t = some (.tup [.int ((j + i : Nat) : Int), x])
  | [], _, _, _, _, _, i, t, q => by simp at q
  | _ :: _, [], _, _, l, _, _, _, _ => by cases l
  | a :: as, x :: xs, H, j, l, nd, i, t, q => by
    have nd' := List.nodup_cons.mp nd
    cases i with
    | zero =>
      obtain rfl : a = t := by simpa using q
      refine ⟨x, rfl, ?_⟩
      show putE (upd H a _) (j + 1) as xs a = _
      rw [putE_off as xs _ _ nd'.1, upd_same]
      rfl
    | succ i =>
      obtain ⟨y, y1, y2⟩ := putE_on as xs (upd H a (.tup [.int (j : Nat), x])) (j + 1) (Nat.succ.inj l) nd'.2 i t (by simpa using q)
      refine ⟨y, by simpa using y1, ?_⟩
      show putE (upd H a _) (j + 1) as xs t = _
      rw [y2, show j + 1 + i = j + (i + 1) by omega]
/-- ts hold the pairs (0, x0), (1, x1) .. -/
def EnumT (H : Hp) (ts : List Addr) (xs : List V) : Prop := ts.length = xs.length ∧ ∀ j t, ts[j]? = some t → ∃ x, xs[j]? = some x ∧ H t = some (.tup [.int (j : Nat), x])
theorem refs_vals : ∀ as : List Addr, Vals (as.map V.ref) (as.map Value.ref)
  | [] => .nil
  | _ :: as => .cons rfl (refs_vals as)
section
variable {X : Cx}
theorem enums_laid {pins : List (Addr × Obj)} {σ : L2.St} {H : Hp} {s : Shared} {h' : Heap} {tk : Nat} {xs : List V} {its : List Value} {acc : Array Value} {c : Nat} {as : List Addr} {S : Addr} (I : Inv X pins σ H s) (l0 : s.heap.objs.size ≤ S) (hz : xs.length ≤ sizeLine) (rv : Vals xs its)
    (hk : ∀ b o, s.heap.get? b = some o → h'.get? b = some o) (sh : h'.get? S = some { cls := .type "list", dict := none, data := .seq acc c, slots := #[] }) (hl : as.length = its.toArray.size) (g : EnG (fun i v => its.toArray[i]? = some v) S h' as) (ac : acc.toList = as.map Value.ref) :
    ∃ H' : Hp, (∀ b o, H b = some o → H' b = some o) ∧ H S = none ∧ (∀ t ∈ as, H t = none) ∧ S ∉ as ∧ as.Nodup ∧ H' S = some (.lst (as.map V.ref)) ∧ EnumT H' as xs ∧ Inv X pins σ H' { s with heap := h', toks := tk } := by
  have lx : as.length = xs.length := by rw [hl, rv.length]; simp
  have nS : S ∉ as := fun z => Nat.lt_irrefl _ (g.above _ z)
  have new : ∀ t ∈ as, H t = none := fun t ht => I.hok.fresh (Nat.le_trans l0 (Nat.le_of_lt (g.above t ht)))
  have newS : H S = none := I.hok.fresh l0
  have on := putE_on as xs (upd H S (.lst (as.map V.ref))) 0 lx g.nd
  have off : ∀ b, b ∉ as → b ≠ S → putE (upd H S (.lst (as.map V.ref))) 0 as xs b = H b := fun b z1 z2 => by rw [putE_off as xs _ _ z1, upd_ne z2]
  have atS : putE (upd H S (.lst (as.map V.ref))) 0 as xs S = some (.lst (as.map V.ref)) := by rw [putE_off as xs _ _ nS, upd_same]
  generalize putE (upd H S (.lst (as.map V.ref))) 0 as xs = H' at on off atS
  have kp : ∀ b u, H b = some u → H' b = some u := fun b u q => by
    rw [off b (fun z => by rw [new b z] at q; cases q) (fun z => by rw [z, newS] at q; cases q)]
    exact q
  have low : ∀ b o, s.heap.get? b = some o → b ∉ as ∧ b ≠ S := fun b o q => ⟨fun z => absurd (Heap.lt_size q) (Nat.not_lt.mpr (Nat.le_trans l0 (Nat.le_of_lt (g.above b z)))), Nat.ne_of_lt (Nat.lt_of_lt_of_le (Heap.lt_size q) l0)⟩
  refine ⟨H', kp, newS, new, nS, g.nd, atS, ⟨lx, fun j t q => by simpa using on j t q⟩, ?_⟩
  refine I.call' (ch := []) rfl ⟨fun b o q _ _ _ => hk b o q, fun b o q _ _ _ => ⟨o.slots, hk b o q⟩, fun b o q n _ => ?_, fun b o q _ => ⟨o, hk b o q⟩, fun b ys q => kp b _ q, fun b o u q => kp b _ q, fun b ps q => ⟨#[], by rw [kp b _ q]; simp⟩⟩ (fun b u q => ?_) I.bare fun b z => by simp at z
  · obtain ⟨z1, z2⟩ := low b o q
    rw [off b z1 z2]
    exact n
  · by_cases hb : b ∈ as
    · obtain ⟨j, hj⟩ := List.mem_iff_getElem?.mp hb
      obtain ⟨x, x1, x2⟩ := on j b hj
      rw [x2] at q
      cases q
      obtain ⟨t, v, v1, v2⟩ := g.pairs j b hj
      obtain ⟨u', u1, u2⟩ := rv.get x1
      have ev : v = u' := by
        have q : its[j]? = some v := by simpa using v1
        rw [u1] at q
        exact (Option.some.inj q).symm
      subst ev
      refine ⟨by show 2 ≤ sizeLine; decide, [.int j t, v], .cons ⟨t, by simp⟩ (.cons u2 .nil), ⟨_, v2, rfl, _, rfl⟩⟩
    · by_cases hb2 : b = S
      · subst hb2
        rw [atS] at q
        cases q
        exact ⟨by rw [List.length_map]; omega, acc.toList, c, by rw [ac]; exact refs_vals as, by rw [Array.toArray_toList]; exact sh⟩
      · rw [off b hb hb2] at q
        exact (I.hok b u q).stay (fun d v _ y => hk d v y) (fun d y => kp d _ y) fun d ys y => kp d _ y
theorem nmem2 (m a : Nat) (q : a < m) : m + 1 ∉ [m, a] := by
  intro z
  rcases List.mem_cons.mp z with z | z
  · omega
  · have := List.mem_singleton.mp z; omega
theorem ltOf2 (m a b k : Nat) (q : a < m) (hk : k = m + 2) (z : b ∈ [m, a]) : b < k := by
  rcases List.mem_cons.mp z with z | z
  · omega
  · have := List.mem_singleton.mp z; omega
theorem no1 (m b : Nat) (q : b < m) (z : b = m + 1) : False := by omega
theorem le2 (m k : Nat) (q : k = m + 2) : m ≤ k := by omega
theorem ltk (m b k : Nat) (q : b < m) (h : k = m + 2) (z : b = k) : False := by omega
def rEnumL (K : PySem.W.Frag) : V → Hp → VK → Prop := fun x H Q => ∃ (a : Addr) (xs : List V), x = .ref a ∧ (SqL K H a xs ∨ SqT K H a xs) ∧
  ∀ (H' : Hp) (p : Addr) (ts : List Addr), (∀ b o, H b = some o → H' b = some o) → H p = none → (∀ t ∈ ts, H t = none) → p ∉ ts → ts.Nodup → H' p = some (.lst (ts.map V.ref)) → EnumT H' ts xs → Q (.ref p) H'
def tListEnum (K : PySem.W.Frag) (te : TE) : TE := fun σ H Q => te σ H fun x H1 => rEnumL K x H1 Q
variable {e : Expr} {te : TE} {p p2 pos pos2 : Pos}
theorem pe_listEnum (hc : X.calm = true) (he : PE X e te) (hg : Gl X "list") (hm : X.mg "list" = none) (hv : bootBuiltins "list" = some (.type "list")) (hg2 : Gl X "enumerate") (hm2 : X.mg "enumerate" = none)
    (hs : starEach [.Call (.Name "enumerate" p2) [e] [] pos2] X.env = [(false, eval (.Call (.Name "enumerate" p2) [e] [] pos2) X.env)] := by rfl) (hs2 : starEach [e] X.env = [(false, eval e X.env)] := by rfl) :
    PE X (.Call (.Name "list" p) [.Call (.Name "enumerate" p2) [e] [] pos2] [] pos) (tListEnum X.K te) := by
  refine ⟨fun pins s σ H Q I hq => ?_⟩
  refine wpAny_Call_Name_kw (ld_blt I hg hm hv ?_)
  refine PyProof.Rows.callWith_type1 ?_ hs rfl
  rw [hs]
  show wpAny _ _ (spliced ((false, eval (.Call (.Name "enumerate" p2) [e] [] pos2) X.env) :: backTo pos [])) _ _ s
  refine Calls.spliced_cons ?_
  refine Call_ (ld_blt I hg2 hm2 boot_enumerate ?_)
  refine PyProof.Rows.callWith_type1 ?_ hs2 rfl
  rw [hs2]
  show wpAny _ _ (spliced ((false, eval e X.env) :: backTo pos2 [])) _ _ s
  refine Calls.spliced_cons (thn (he.run pins s σ H _ I hq) fun u s1 ⟨x, H1, I1, rx, a, xs, ex, hsq, q⟩ => ?_)
  subst ex
  obtain rfl : u = Value.ref a := rx
  refine Calls.spliced_nil ?_
  have fin : ∀ (its : List Value) (h2 h3 : Heap) (tk c : Nat) (acc : Array Value) (as : List Addr) (St : Nat → Heap → Prop), Vals xs its → xs.length ≤ sizeLine → h2.objs.size = s1.heap.objs.size + 2 → (∀ b o, s1.heap.get? b = some o → h2.get? b = some o) →
      EnAt St (fun i v => its.toArray[i]? = some v) (s1.heap.objs.size + 1) s1.heap.objs.size h2.objs.size h2 h3 its.toArray.size acc c as → ∃ v H', Inv X pins σ H' { s1 with heap := h3, toks := tk } ∧ RelV v (.ref h2.objs.size) ∧ Q v H' := by
    intro its h2 h3 tk c acc as St rv hz z2 k2 z
    obtain ⟨H', k1, k3, k4, k5, k6, k7, k8, J⟩ := enums_laid (tk := tk) (S := h2.objs.size) I1 (le2 _ _ z2) hz rv (fun b o y => z.kp b o (fun w => ltk _ _ _ (Heap.lt_size y) z2 w) (fun w => no1 _ _ (Heap.lt_size y) w) (fun w => by rw [w] at y; exact Nat.lt_irrefl _ (Heap.lt_size y)) (k2 b o y)) z.sh z.ln z.gr z.ac
    exact ⟨.ref h2.objs.size, H', J, rfl, q H' _ as k1 k3 k4 k5 k6 k7 k8⟩
  have hh := I1.ok.hd hc
  rcases hsq with hsq | hsq
  · obtain ⟨its, rv, pl, hz⟩ := I1.list hsq
    have la : a < s1.heap.objs.size := pl.lt
    refine call_enumerate_list pl.isList fun h2 he hit z2 k2 => ?_
    refine Calls.spliced_nil ?_
    have D := Draws.list (prog := X.prog) (w := X.w) (A := X.A.in1.in1.in1) hh s1.heap.objs.size a (Nat.ne_of_lt la) its.toArray
    refine en_call (s := { s1 with heap := h2 }) (Nat.succ_ne_self _) (nmem2 _ _ la) (fun b hb => ltOf2 _ _ _ _ la z2 hb) (by simpa [← rv.length] using hz) D he ⟨hit, pl.isList.at fun o y => k2 a o y⟩ fun h3 tk acc c as z => ?_
    exact fin its h2 h3 tk c acc as _ rv hz z2 k2 z
  · obtain ⟨its, rv, pl, hz⟩ := I1.tuple hsq
    have la : a < s1.heap.objs.size := pl.lt
    refine gx_enum1 (begins_tuple a its.toArray) (show s1.heap.IsTuple a its.toArray from pl) fun h2 he hit z2 k2 => ?_
    refine Calls.spliced_nil ?_
    have D := Draws.tuple (prog := X.prog) (w := X.w) (A := X.A.in1.in1.in1) hh s1.heap.objs.size a (Nat.ne_of_lt la) its.toArray
    refine en_call (s := { s1 with heap := h2 }) (Nat.succ_ne_self _) (nmem2 _ _ la) (fun b hb => ltOf2 _ _ _ _ la z2 hb) (by simpa [← rv.length] using hz) D he ⟨⟨_, hit, rfl, rfl⟩, (show s1.heap.IsTuple a its.toArray from pl).at fun o y => k2 a o y⟩ fun h3 tk acc c as z => ?_
    exact fin its h2 h3 tk c acc as _ rv hz z2 k2 z
end
end GX

set_option Elab.async false
set_option linter.all false
set_option maxRecDepth 100000
set_option maxHeartbeats 4000000
namespace GX
open PySem PySem.Spec PyProof.Rows L2
section
variable {X : Cx}
/-- lcm(a, b) of numbers not too great -/
def rLcm : List V → Hp → VK → Prop := fun vs H Q => ∃ a b : Nat, vs = [.int (a : Nat), .int (b : Nat)] ∧ a < 1000000000 ∧ b < 1000000000 ∧ Q (.int ((Nat.lcm a b : Nat) : Int)) H
theorem cr_lcm : CallR X (.builtin "math.lcm") rLcm := by
  intro pins s σ H vs us Q I r h
  obtain ⟨a, b, rfl, h1, h2, q⟩ := h
  obtain ⟨t, u, rfl⟩ := Vals.int2 r
  exact PySem.W.mc_lcm (by rw [Int.natAbs_natCast]; omega) (by rw [Int.natAbs_natCast]; omega) fun _ => ⟨.int _, H, I.tok _, ⟨_, rfl⟩, by rw [Int.natAbs_natCast, Int.natAbs_natCast]; exact q⟩
/-- l[i], l a list, by values -/
theorem get_list : PGet X (fun o i H Q => ∃ p xs j x, o = .ref p ∧ i = .int ((j : Nat) : Int) ∧ SqL X.K H p xs ∧ xs[j]? = some x ∧ Q x H) := by
  intro pins s σ H o i ov iv Q I ro ri h
  obtain ⟨p, xs, j, x, rfl, rfl, hq, hx, q⟩ := h
  cases ro
  obtain ⟨t, rfl⟩ := ri
  obtain ⟨its, r, pl, hz⟩ := I.list hq
  obtain ⟨u, hu, ru⟩ := r.get hx
  have hn := line63
  have hl := r.length
  have hj : j < xs.length := (List.getElem?_eq_some_iff.mp hx).1
  exact PySem.wpAny_getItem_list pl.isList (by omega) (by omega) (by simpa using hu) ⟨x, H, I, ru, q⟩
def ipN (f : Nat → Nat → Nat) (c : Nat → Nat → Prop) : TIp := fun x y H Q => ∃ m n : Nat, x = .int (m : Nat) ∧ y = .int (n : Nat) ∧ c m n ∧ Q (.int ((f m n : Nat) : Int)) H
theorem ip_addN : PIp X .Add (ipN (fun m n => m + n) fun _ _ => True) := by
  intro pins s σ H x y v u Q I r1 r2 ⟨m, n, e1, e2, _, q⟩
  exact ip_add pins s σ H x y v u Q I r1 r2 ⟨_, _, e1, e2, by rw [Int.natCast_add] at q; exact q⟩
theorem ip_subN : PIp X .Sub (ipN (fun m n => m - n) fun m n => n ≤ m) := by
  intro pins s σ H x y v u Q I r1 r2 ⟨m, n, e1, e2, c, q⟩
  exact ip_sub pins s σ H x y v u Q I r1 r2 ⟨_, _, e1, e2, by rw [Int.natCast_sub c] at q; exact q⟩
theorem in_addN : InOp X .Add (fun x y H Q => ∃ m n : Nat, x = .int (m : Nat) ∧ y = .int (n : Nat) ∧ Q (.int ((m + n : Nat) : Int)) H) := by
  intro pins s σ H x y v u Q I r1 r2 ⟨m, n, e1, e2, q⟩
  exact in_add pins s σ H x y v u Q I r1 r2 ⟨_, _, e1, e2, by rw [Int.natCast_add] at q; exact q⟩
theorem hu_of {k : Nat} {A : Around} (r : Room k A) : A.units + 1 < cLine := by have := r.units; omega
end
end GX

set_option Elab.async false
set_option linter.all false
set_option maxRecDepth 100000
set_option maxHeartbeats 4000000
/-! list(enumerate(it)), it an iterator that lays things of its own (a zip) -/
namespace PySem
/-- an iterator: what it owns, what it gives; S the list that is being filled, e the enumerate -/
structure DrG (prog : Program) (w : World) (A : Around) (it S e : Addr) (own : List Addr) (n : Nat) (P : Nat → Value → Heap → Prop) (St : Nat → Heap → Prop) : Prop where
  live : ∀ i h, St i h → ∃ o, h.get? it = some o
  mem : it ∈ own
  lo : ∀ b ∈ own, b < e
  eS : e < S
  frame : ∀ i h h', St i h → (∀ b o, b ≠ S → b ≠ e → h.get? b = some o → h'.get? b = some o) → St i h'
  pk : ∀ i x h h', P i x h → (∀ b o, b ≠ S → b ≠ e → b ∉ own → h.get? b = some o → h'.get? b = some o) → P i x h'
  item : ∀ i (s : Shared) (Q : Value → Shared → Prop) (E : Value → Shared → Prop), i < n → St i s.heap → S < s.heap.objs.size →
    (∀ T h' tk, P i (.ref T) h' → St (i + 1) h' → (∀ b o, b ∉ own → s.heap.get? b = some o → h'.get? b = some o) → s.heap.objs.size ≤ T → T < h'.objs.size → Q (.ref T) { s with heap := h', toks := tk }) → wpAny (model prog w) A (Builtin.SmallTypes.nextOf (.ref it)) Q E s
  done : ∀ (s : Shared) (Q : Value → Shared → Prop) (E : Value → Shared → Prop), St n s.heap →
    (∀ h' tk x, (∀ b o, b ∉ own → s.heap.get? b = some o → h'.get? b = some o) → (∃ o, h'.get? x = some o ∧ o.cls = .type "StopIteration") → E (.ref x) { s with heap := h', toks := tk }) → wpAny (model prog w) A (Builtin.SmallTypes.nextOf (.ref it)) Q E s
section
variable {prog : Program} {w : World} {A : Around} {E : Value → Shared → Prop} {s : Shared}
variable {it S e : Addr} {own : List Addr} {n : Nat} {P : Nat → Value → Heap → Prop} {St : Nat → Heap → Prop}
theorem DrG.eo (D : DrG prog w A it S e own n P St) : e ∉ own := fun z => Nat.lt_irrefl _ (D.lo e z)
theorem DrG.So (D : DrG prog w A it S e own n P St) : S ∉ own := fun z => Nat.lt_irrefl _ (Nat.lt_trans (D.lo S z) D.eS)
/-- the enumerate's next, as long as the last tuple given out is there (or none was given out) -/
theorem gz_next {i : Nat} {old : Value} {Q : Value → Shared → Prop} (D : DrG prog w A it S e own n P St)
    (he : IsEnum s.heap e it i old ∨ ∃ T f oT, IsEnumHeld s.heap e it i old T f ∧ s.heap.get? T = some oT ∧ T ≠ e ∧ T ∉ own ∧ T ≠ S) (st : St i s.heap) (hS : S < s.heap.objs.size) (lt : i < n)
    (hQ : ∀ U h' tk r, P i (.ref U) h' → (∃ old' T f oT, IsEnumHeld h' e it ((i : Int) + 1) old' T f ∧ h'.get? T = some oT ∧ T ≠ e ∧ T ∉ own ∧ T ≠ S) → St (i + 1) h' → h'.get? r = some { cls := .type "tuple", data := .seq #[.int i tk, .ref U] } → s.heap.objs.size ≤ U → U < r →
      (∀ b o, b ≠ e → b ∉ own → s.heap.get? b = some o → h'.get? b = some o) → Q (.ref r) { s with heap := h', toks := tk + 1 }) :
    wpAny (model prog w) A (Builtin.«enumerate.__next__» ⟨[.ref e], []⟩) (fun fin s' => ∃ v, fin = .done (.ret v) ∧ Q v s') E s := by
  obtain ⟨hp, gg, dd, tk0, os⟩ := s
  have eo := D.eo
  rcases he with he | ⟨T, f, oT, he, oT1, t1, t2, tS⟩
  · show wpAny _ _ (field (.ref e) 2 >>= _) _ _ _
    refine wpAny_bind (wpAny_field he rfl (x := .ref it) rfl ?_)
    refine wpAny_bind (D.item i _ _ _ lt st hS fun U ha tk px sa ka z0 zU => ?_)
    replace z0 : hp.objs.size ≤ U := z0
    replace zU : U < ha.objs.size := zU
    replace ka : ∀ b o, b ∉ own → hp.get? b = some o → ha.get? b = some o := ka
    have za : hp.objs.size ≤ ha.objs.size := Nat.le_trans z0 (Nat.le_of_lt zU)
    have ea : IsEnum ha e it i old := ka e _ eo he
    show wpAny _ _ (field (.ref e) 3 >>= _) _ _ (⟨ha, gg, dd, tk, os⟩ : Shared)
    refine wpAny_bind (wpAny_field ea rfl (x := rawInt i) rfl ?_)
    show wpAny _ _ (field (.ref e) 4 >>= _) _ _ (⟨ha, gg, dd, tk, os⟩ : Shared)
    refine wpAny_bind (wpAny_field ea rfl (x := .none) rfl ?_)
    show wpAny _ _ (mkInt i >>= _) _ _ (⟨ha, gg, dd, tk, os⟩ : Shared)
    refine wpAny_bind (wpAny_mkInt ?_)
    show wpAny _ _ (setField (.ref e) 3 (rawInt ((i : Int) + 1)) >>= _) _ _ (⟨ha, gg, dd, tk + 1, os⟩ : Shared)
    refine wpAny_bind (wpAny_setField_rec ea (by simp) fun hb eb kb => ?_)
    replace kb : Heap.SameBut e ha hb := kb
    replace eb : IsEnum hb e it ((i : Int) + 1) old := eb
    show wpAny _ _ (setField (.ref e) 4 .none >>= _) _ _ (⟨hb, gg, dd, tk + 1, os⟩ : Shared)
    refine wpAny_bind (wpAny_setField_rec eb (by simp) fun hc ec kc => ?_)
    replace kc : Heap.SameBut e hb hc := kc
    replace ec : IsEnum hc e it ((i : Int) + 1) old := ec
    show wpAny _ _ (newTuple [.int i tk, .ref U] >>= _) _ _ (⟨hc, gg, dd, tk + 1, os⟩ : Shared)
    refine wpAny_bind (wpAny_newTuple ?_)
    have z1 : hc.objs.size = ha.objs.size := kc.1.trans kb.1
    have ed : IsEnum (hc.push { cls := .type "tuple", data := .seq #[.int i tk, .ref U] }) e it ((i : Int) + 1) old := Heap.get?_push_of_some _ ec
    have td : (hc.push { cls := .type "tuple", data := .seq #[.int i tk, .ref U] }).get? ha.objs.size = some { cls := .type "tuple", data := .seq #[.int i tk, .ref U] } := by
      rw [← z1]
      exact Heap.get?_push_size _ rfl
    have kd : ∀ b o, b ≠ e → ha.get? b = some o → (hc.push { cls := .type "tuple", data := .seq #[.int i tk, .ref U] }).get? b = some o := fun b o n1 q => Heap.get?_push_of_some _ (kc.extBut b o n1 (kb.extBut b o n1 q))
    generalize hc.push { cls := .type "tuple", data := .seq #[.int i tk, .ref U] } = hd at ed td kd
    show wpAny _ _ (Builtin.SmallTypes.ownedTupleIsFree (.ref e) >>= _) _ _ (⟨hd, gg, dd, tk + 1, os⟩ : Shared)
    rw [z1]
    refine wpAny_bind ?_
    unfold Builtin.SmallTypes.ownedTupleIsFree
    refine wpAny_bind (wpAny_field ed rfl (x := .none) rfl (wpAny_pure ?_))
    simp only [if_true]
    refine wpAny_bind (wpAny_rule ?_)
    refine wpAny_bind (wpAny_field ed rfl (x := old) rfl ?_)
    refine wpAny_bind (wpAny_setField_rec ed (by simp) fun h5 e5 k5 => ?_)
    replace k5 : Heap.SameBut e hd h5 := k5
    replace e5 : IsEnum h5 e it ((i : Int) + 1) (.ref U) := e5
    show wpAny _ _ (Builtin.SmallTypes.ownedTupleHandOut (.ref e) (.ref ha.objs.size) >>= _) _ _ (⟨h5, gg, dd, tk + 1, os⟩ : Shared)
    refine wpAny_bind ?_
    unfold Builtin.SmallTypes.ownedTupleHandOut
    refine wpAny_bind (wpAny_setField_rec e5 (by simp) fun h6 e6 k6 => ?_)
    replace k6 : Heap.SameBut e h5 h6 := k6
    replace e6 : IsEnumHeld h6 e it ((i : Int) + 1) (.ref U) ha.objs.size false := e6
    refine wpAny_setField_rec e6 (by simp) fun h7 e7 k7 => ?_
    replace k7 : Heap.SameBut e h6 h7 := k7
    replace e7 : IsEnumHeld h7 e it ((i : Int) + 1) (.ref U) ha.objs.size false := e7
    have up : ∀ b o, b ≠ e → hd.get? b = some o → h7.get? b = some o := fun b o n1 q => k7.extBut b o n1 (k6.extBut b o n1 (k5.extBut b o n1 q))
    have le : e < ha.objs.size := Nat.lt_of_lt_of_le (Heap.lt_size he) za
    have ne : ha.objs.size ≠ e := Nat.ne_of_gt le
    refine wpAny_bind (wpAny_letGo (wpAny_pure ⟨_, rfl, hQ U h7 tk ha.objs.size ?_ ⟨.ref U, ha.objs.size, false, _, e7, up _ _ ne td, ne, fun z => ?_, ?_⟩ ?_ (up _ _ ne td) z0 zU ?_⟩))
    · exact D.pk _ _ _ _ px fun b o _ n2 _ q => up b o n2 (kd b o n2 q)
    · exact Nat.lt_asymm le (D.lo _ z)
    · exact Nat.ne_of_gt (Nat.lt_of_lt_of_le hS za)
    · exact D.frame _ _ _ sa fun b o _ n2 q => up b o n2 (kd b o n2 q)
    · exact fun b o n1 n2 q => up b o n1 (kd b o n1 (ka b o n2 q))
  · show wpAny _ _ (field (.ref e) 2 >>= _) _ _ _
    refine wpAny_bind (wpAny_field he rfl (x := .ref it) rfl ?_)
    refine wpAny_bind (D.item i _ _ _ lt st hS fun U ha tk px sa ka z0 zU => ?_)
    replace z0 : hp.objs.size ≤ U := z0
    replace zU : U < ha.objs.size := zU
    replace ka : ∀ b o, b ∉ own → hp.get? b = some o → ha.get? b = some o := ka
    have za : hp.objs.size ≤ ha.objs.size := Nat.le_trans z0 (Nat.le_of_lt zU)
    have ea : IsEnumHeld ha e it i old T f := ka e _ eo he
    show wpAny _ _ (field (.ref e) 3 >>= _) _ _ (⟨ha, gg, dd, tk, os⟩ : Shared)
    refine wpAny_bind (wpAny_field ea rfl (x := rawInt i) rfl ?_)
    show wpAny _ _ (field (.ref e) 4 >>= _) _ _ (⟨ha, gg, dd, tk, os⟩ : Shared)
    refine wpAny_bind (wpAny_field ea rfl (x := .none) rfl ?_)
    show wpAny _ _ (mkInt i >>= _) _ _ (⟨ha, gg, dd, tk, os⟩ : Shared)
    refine wpAny_bind (wpAny_mkInt ?_)
    show wpAny _ _ (setField (.ref e) 3 (rawInt ((i : Int) + 1)) >>= _) _ _ (⟨ha, gg, dd, tk + 1, os⟩ : Shared)
    refine wpAny_bind (wpAny_setField_rec ea (by simp) fun hb eb kb => ?_)
    replace kb : Heap.SameBut e ha hb := kb
    replace eb : IsEnumHeld hb e it ((i : Int) + 1) old T f := eb
    show wpAny _ _ (setField (.ref e) 4 .none >>= _) _ _ (⟨hb, gg, dd, tk + 1, os⟩ : Shared)
    refine wpAny_bind (wpAny_setField_rec eb (by simp) fun hc ec kc => ?_)
    replace kc : Heap.SameBut e hb hc := kc
    replace ec : IsEnumHeld hc e it ((i : Int) + 1) old T f := ec
    show wpAny _ _ (newTuple [.int i tk, .ref U] >>= _) _ _ (⟨hc, gg, dd, tk + 1, os⟩ : Shared)
    refine wpAny_bind (wpAny_newTuple ?_)
    have z1 : hc.objs.size = ha.objs.size := kc.1.trans kb.1
    have ed : IsEnumHeld (hc.push { cls := .type "tuple", data := .seq #[.int i tk, .ref U] }) e it ((i : Int) + 1) old T f := Heap.get?_push_of_some _ ec
    have td : (hc.push { cls := .type "tuple", data := .seq #[.int i tk, .ref U] }).get? ha.objs.size = some { cls := .type "tuple", data := .seq #[.int i tk, .ref U] } := by
      rw [← z1]
      exact Heap.get?_push_size _ rfl
    have kd : ∀ b o, b ≠ e → ha.get? b = some o → (hc.push { cls := .type "tuple", data := .seq #[.int i tk, .ref U] }).get? b = some o := fun b o n1 q => Heap.get?_push_of_some _ (kc.extBut b o n1 (kb.extBut b o n1 q))
    generalize hc.push { cls := .type "tuple", data := .seq #[.int i tk, .ref U] } = hd at ed td kd
    show wpAny _ _ (Builtin.SmallTypes.ownedTupleIsFree (.ref e) >>= _) _ _ (⟨hd, gg, dd, tk + 1, os⟩ : Shared)
    rw [z1]
    have oTd := kd T oT t1 (ka T oT t2 oT1)
    refine wpAny_bind (wpAny_tupleHeld_enum (s := ⟨hd, gg, dd, tk + 1, os⟩) ed oTd fun hf ef kf => ?_)
    replace kf : Heap.SameBut e hd hf := kf
    simp only [Bool.false_eq_true, if_false]
    have le : e < ha.objs.size := Nat.lt_of_lt_of_le (Heap.lt_size he) za
    refine wpAny_pure ⟨_, rfl, hQ U hf tk ha.objs.size ?_ ⟨old, T, true, oT, ef, kf.extBut _ _ t1 oTd, t1, t2, tS⟩ ?_ (kf.extBut _ _ (Nat.ne_of_gt le) td) z0 zU ?_⟩
    · exact D.pk _ _ _ _ px fun b o _ n2 _ q => kf.extBut b o n2 (kd b o n2 q)
    · exact D.frame _ _ _ sa fun b o _ n2 q => kf.extBut b o n2 (kd b o n2 q)
    · exact fun b o n1 n2 q => kf.extBut b o n1 (kd b o n1 (ka b o n2 q))
/-- the enumerate ahead of turn i -/
def EnZ (own : List Addr) (St : Nat → Heap → Prop) (h : Heap) (e it S : Addr) (i : Nat) : Prop := St i h ∧ ((∃ old, IsEnum h e it i old) ∨ ∃ old T f oT, IsEnumHeld h e it i old T f ∧ h.get? T = some oT ∧ T ≠ e ∧ T ∉ own ∧ T ≠ S)
theorem EnZ.keep {h h' : Heap} {i : Nat} (st : EnZ own St h e it S i) (D : DrG prog w A it S e own n P St) (k : ∀ b o, b ≠ S → h.get? b = some o → h'.get? b = some o) : EnZ own St h' e it S i := by
  obtain ⟨st, q⟩ := st
  have nE : e ≠ S := Nat.ne_of_lt D.eS
  refine ⟨D.frame _ _ _ st fun b o n1 _ y => k b o n1 y, ?_⟩
  rcases q with ⟨old, q⟩ | ⟨old, T, f, oT, q, y, r1, r2, r3⟩
  · exact .inl ⟨old, k e _ nE q⟩
  · exact .inr ⟨old, T, f, oT, k e _ nE q, k T oT r3 y, r1, r2, r3⟩
theorem gz_item {i : Nat} {Q : Option Value → Shared → Prop} (D : DrG prog w A.in1 it S e own n P St) (hS : S < s.heap.objs.size) (st : EnZ own St s.heap e it S i) (lt : i < n)
    (hQ : ∀ U h' tk r, P i (.ref U) h' → EnZ own St h' e it S (i + 1) → h'.get? r = some { cls := .type "tuple", data := .seq #[.int i tk, .ref U] } → s.heap.objs.size ≤ U → U < r → (∀ b o, b ≠ e → b ∉ own → s.heap.get? b = some o → h'.get? b = some o) → Q (some (.ref r)) { s with heap := h', toks := tk + 1 }) :
    wpAny (model prog w) A (pyNext (.ref e)) Q E s := by
  obtain ⟨st, q⟩ := st
  have ec : ((i + 1 : Nat) : Int) = (i : Int) + 1 := by omega
  have run : ∀ old, (IsEnum s.heap e it i old ∨ ∃ T f oT, IsEnumHeld s.heap e it i old T f ∧ s.heap.get? T = some oT ∧ T ≠ e ∧ T ∉ own ∧ T ≠ S) → s.TypeIs (.ref e) "enumerate" → wpAny (model prog w) A (pyNext (.ref e)) Q E s := by
    intro old he hy
    unfold pyNext
    refine wpAny_bind (wpAny_attempt (wpAny_callSpecial?_slot (name := Str.ofString "__next__") hy F.slot_enumerate_next (wpAny_call_entry F.slot_enumerate_next hy F.entry_enumerate_next
      (gz_next D he st hS lt fun U h' tk r px hh st' hr zr zu hk => wpAny_pure (hQ U h' tk r px ⟨st', .inr ?_⟩ hr zr zu hk)) (F.args_enumerate_next_1 _))))
    rw [ec]
    exact hh
  rcases q with ⟨old, q⟩ | ⟨old, T, f, oT, q, y, r1, r2, r3⟩
  · exact run old (.inl q) ⟨_, q, rfl⟩
  · exact run old (.inr ⟨T, f, oT, q, y, r1, r2, r3⟩) ⟨_, q, rfl⟩
theorem gz_done {Q : Option Value → Shared → Prop} (D : DrG prog w A.in1 it S e own n P St) (st : EnZ own St s.heap e it S n) (hQ : ∀ h' tk, (∀ b o, b ∉ own → s.heap.get? b = some o → h'.get? b = some o) → Q none { s with heap := h', toks := tk }) : wpAny (model prog w) A (pyNext (.ref e)) Q E s := by
  obtain ⟨st, q⟩ := st
  have go : ∀ (hy : s.TypeIs (.ref e) "enumerate") (obj : Obj), s.heap.get? e = some obj → (∃ a b c d f', obj = { cls := .type "enumerate", dict := none, data := .fields #[a, b, .ref it, c, d, f'], slots := #[] }) → wpAny (model prog w) A (pyNext (.ref e)) Q E s := by
    rintro hy obj q ⟨a, b, c, d, f', rfl⟩
    unfold pyNext
    refine wpAny_bind (wpAny_attempt (wpAny_callSpecial?_slot (name := Str.ofString "__next__") hy F.slot_enumerate_next (wpAny_call_entry F.slot_enumerate_next hy F.entry_enumerate_next ?_ (F.args_enumerate_next_1 _))))
    show wpAny _ _ (field (.ref e) 2 >>= _) _ _ _
    refine wpAny_bind (wpAny_field q rfl (x := .ref it) rfl ?_)
    refine wpAny_bind (D.done _ _ _ st fun h' tk x he' hx' => ?_)
    obtain ⟨o, ho, hc⟩ := hx'
    exact wpAny_bind (wpAny_isInstance (T := "StopIteration") (b := true) ⟨o, ho, hc⟩ isSubtype_stop (wpAny_pure (hQ _ _ he')))
  rcases q with ⟨old, q⟩ | ⟨old, T, f, oT, q, y, r1, r2, r3⟩
  · exact go ⟨_, q, rfl⟩ _ q ⟨_, _, _, _, _, rfl⟩
  · exact go ⟨_, q, rfl⟩ _ q ⟨_, _, _, _, _, rfl⟩
end
end PySem

set_option Elab.async false
set_option linter.all false
set_option maxRecDepth 100000
set_option maxHeartbeats 4000000
namespace PySem
section
variable {prog : Program} {w : World} {A : Around} {s : Shared} {Z : Result → Shared → Prop}
variable {e it S : Addr} {own : List Addr} {n : Nat} {P : Nat → Value → Heap → Prop} {St : Nat → Heap → Prop}
/-- the tuples given out so far -/
structure GzG (P : Nat → Value → Heap → Prop) (lo : Addr) (h : Heap) (qs : List (Addr × Addr)) : Prop where
  ord : qs.Pairwise fun p q => p.2 < q.1
  above : ∀ p ∈ qs, lo < p.1 ∧ p.1 < p.2
  pairs : ∀ (j : Nat) (p : Addr × Addr), qs[j]? = some p → ∃ tk, P j (.ref p.1) h ∧ h.get? p.2 = some { cls := .type "tuple", data := .seq #[.int j tk, .ref p.1] }
/-- the list S is being filled from e: i tuples are out -/
structure GzAt (P : Nat → Value → Heap → Prop) (own : List Addr) (e S : Addr) (h0 h : Heap) (i : Nat) (acc : Array Value) (c : Nat) (as : List (Addr × Addr)) : Prop where
  sh : h.get? S = some { cls := .type "list", dict := none, data := .seq acc c, slots := #[] }
  ac : acc.toList = as.map fun p => Value.ref p.2
  ln : as.length = i
  gr : GzG P S h as
  kp : ∀ b o, b ≠ S → b ≠ e → b ∉ own → h0.get? b = some o → h.get? b = some o
theorem gz_fill (hn : n ≤ sizeLine) (D : DrG prog w A.in1.in1 it S e own n P St) (res : Value) {h0 : Heap}
    (hZ : ∀ h' tk acc c as, GzAt P own e S h0 h' n acc c as → Z (.ok (.ret res)) { s with heap := h', toks := tk }) :
    ∀ (k i : Nat) (h : Heap) (tk c : Nat) (acc : Array Value) (as : List (Addr × Addr)), n - i = k → i ≤ n → EnZ own St h e it S i → GzAt P own e S h0 h i acc c as →
      codeAny (model prog w) A (.builtin "list.extend.loop" ⟨[.ref S, .ref e, res], []⟩) Z { s with heap := h, toks := tk } := by
  have So := D.So
  have eS := D.eS
  intro k
  induction k with
  | zero =>
    intro i h tk c acc as e0 le st at0
    obtain rfl : i = n := by omega
    refine codeAny_builtin F.entry_extend_loop ?_
    rw [Around.under_plainId F.plain_extend_loop _]
    show wpAny _ A.in1 (pyNext (.ref e) >>= _) _ _ _
    refine wpAny_bind (gz_done (s := { s with heap := h, toks := tk }) D st fun h' tk' ex => ?_)
    exact wpAny_pure (hZ h' tk' acc c as ⟨ex S _ So at0.sh, at0.ac, at0.ln, ⟨at0.gr.ord, at0.gr.above, fun j p q => let ⟨t, z1, z2⟩ := at0.gr.pairs j p q; ⟨t, D.pk _ _ _ _ z1 fun b o _ _ n3 y => ex b o n3 y, ex p.2 _ (fun y => Nat.lt_asymm (Nat.lt_trans (at0.gr.above p (List.mem_of_getElem? q)).1 (at0.gr.above p (List.mem_of_getElem? q)).2) (Nat.lt_trans (D.lo p.2 y) eS)) z2⟩⟩, fun b o z1 z2 z3 z4 => ex b o z3 (at0.kp b o z1 z2 z3 z4)⟩)
  | succ k more =>
    intro i h tk c acc as e0 le st at0
    have lt : i < n := by omega
    have z0 : acc.size = i := by rw [← Array.length_toList, at0.ac, List.length_map, at0.ln]
    have lS : S < h.objs.size := Heap.lt_size at0.sh
    refine codeAny_builtin F.entry_extend_loop ?_
    rw [Around.under_plainId F.plain_extend_loop _]
    show wpAny _ A.in1 (pyNext (.ref e) >>= _) _ _ _
    refine wpAny_bind (gz_item (s := { s with heap := h, toks := tk }) D lS st lt fun U h1 tk1 r px st1 hT zU zr k1 => ?_)
    dsimp only at hT k1 zU ⊢
    have SU : S < U := Nat.lt_of_lt_of_le lS zU
    have Sr : S < r := Nat.lt_trans SU zr
    have sh1 := k1 S _ (Nat.ne_of_gt eS) So at0.sh
    have k2 : ∀ b o, b ≠ S → h1.get? b = some o → (h1.update S (Obj.mapSeq (·.push (Value.ref r)))).get? b = some o := fun b o q z => (Heap.get?_update_other _ _ (Ne.symm q)).trans z
    have k3 : ∀ b o, b ≠ S → b ≠ e → b ∉ own → h.get? b = some o → (h1.update S (Obj.mapSeq (·.push (Value.ref r)))).get? b = some o := fun b o q1 q2 q3 z => k2 b o q1 (k1 b o q2 q3 z)
    show wpAny _ A.in1 (updateSeq S (·.push (Value.ref r)) >>= _) _ _ _
    refine wpAny_bind (wpAny_updateSeq sh1 rfl (wpAny_pure ⟨plainId_quiet F.plain_extend_loop _, more (i + 1) _ _ _ (acc.push (Value.ref r)) (as ++ [(U, r)]) (by omega) lt (st1.keep D k2) ⟨Heap.get?_update_self _ sh1 rfl, ?_, ?_, ⟨?_, ?_, ?_⟩, ?_⟩⟩) (by rw [z0]; omega) (by show (acc.push (Value.ref r)).size ≤ sizeLine + 1; rw [Array.size_push, z0]; omega))
    · rw [Array.toList_push, at0.ac, List.map_append]; rfl
    · rw [List.length_append, at0.ln]; rfl
    · refine List.pairwise_append.mpr ⟨at0.gr.ord, List.pairwise_singleton _ _, fun p hp q hq => ?_⟩
      obtain ⟨j, hj⟩ := List.mem_iff_getElem?.mp hp
      obtain ⟨_, _, z⟩ := at0.gr.pairs j p hj
      rw [List.mem_singleton.mp hq]
      exact Nat.lt_of_lt_of_le (Heap.lt_size z) zU
    · intro p hp
      rcases List.mem_append.mp hp with hp | hp
      · exact at0.gr.above p hp
      · rw [List.mem_singleton.mp hp]; exact ⟨SU, zr⟩
    · intro j p hj
      by_cases hl : j < as.length
      · rw [List.getElem?_append_left hl] at hj
        obtain ⟨t, z1, z2⟩ := at0.gr.pairs j p hj
        obtain ⟨b1, b2⟩ := at0.gr.above p (List.mem_of_getElem? hj)
        have ab : S < p.2 := Nat.lt_trans b1 b2
        exact ⟨t, D.pk _ _ _ _ z1 fun b o q1 q2 q3 z => k3 b o q1 q2 q3 z, k3 p.2 _ (Nat.ne_of_gt ab) (Nat.ne_of_gt (Nat.lt_trans eS ab)) (fun y => Nat.lt_asymm ab (Nat.lt_trans (D.lo p.2 y) eS)) z2⟩
      · rw [List.getElem?_append_right (Nat.le_of_not_lt hl)] at hj
        have hj0 : j - as.length = 0 := by
          cases hd : j - as.length with
          | zero => rfl
          | succ m => rw [hd] at hj; simp at hj
        rw [hj0] at hj
        obtain rfl : (U, r) = p := by simpa using hj
        obtain rfl : j = i := by have := at0.ln; omega
        exact ⟨tk1, D.pk _ _ _ _ px fun b o q1 _ _ z => k2 b o q1 z, k2 _ _ (Nat.ne_of_gt Sr) hT⟩
    · exact fun b o q1 q2 q3 z => k3 b o q1 q2 q3 (at0.kp b o q1 q2 q3 z)
theorem gz_extend (hn : n ≤ sizeLine) (D : DrG prog w A.in1.in1 it S e own n P St) (res : Value) {c0 : Nat} (sh : s.heap.get? S = some { cls := .type "list", data := .seq #[] c0 }) (q : IsEnum s.heap e it 0 .none) (st : St 0 s.heap)
    (hZ : ∀ h' tk acc c as, GzAt P own e S s.heap h' n acc c as → Z (.ok (.ret res)) { s with heap := h', toks := tk }) :
    wpAny (model prog w) A.in1 (Builtin.List.listExtendWith (.ref S) (.ref e) res)
      (fun fin s' => match fin with | .done f => Z (.ok f) s' | .again c' => c'.quiet = true ∧ codeAny (model prog w) A c' Z s') (fun x s' => Z (.error x) s') s := by
  have ty : s.TypeIs (.ref e) "enumerate" := ⟨_, q, rfl⟩
  have n1 : Builtin.List.listSameRef (.ref S) (.ref e) = false := by simp [Builtin.List.listSameRef, Nat.ne_of_gt D.eS]
  have n2 : (Value.type "enumerate" == Value.type "list") = false := by decide
  have n3 : (Value.type "enumerate" == Value.type "tuple") = false := by decide
  unfold Builtin.List.listExtendWith
  refine wpAny_bind (wpAny_typeOf ty ?_)
  simp only [n1, n2, n3, Bool.or_false, Bool.false_eq_true, if_false]
  refine wpAny_bind (wpAny_pyIter_enum q ?_)
  refine wpAny_bind (wpAny_holding (en_hint ty ?_))
  show wpAny _ A.in1 (rule "list.extend.makes-room" >>= fun _ => Builtin.List.listTouch (.ref S) >>= fun _ => again (.builtin "list.extend.loop" ⟨[.ref S, .ref e, res], []⟩)) _ _ _
  refine wpAny_bind (wpAny_rule ?_)
  refine wpAny_bind ?_
  show wpAny _ _ (updateSeq S (·.push .none) >>= fun _ => updateSeq S (·.pop)) _ _ _
  refine wpAny_bind (wpAny_updateSeq sh rfl ?_)
  have sh1 := Heap.get?_update_self (Obj.mapSeq (·.push Value.none)) sh rfl
  refine wpAny_updateSeq (hz := by seq_fits) sh1 rfl ?_
  have sh2 := Heap.get?_update_self (Obj.mapSeq (·.pop)) sh1 rfl
  have k : ∀ b o, b ≠ S → s.heap.get? b = some o → ((s.heap.update S (Obj.mapSeq (·.push Value.none))).update S (Obj.mapSeq (·.pop))).get? b = some o := fun b o y z => (Heap.get?_update_other _ _ (Ne.symm y)).trans ((Heap.get?_update_other _ _ (Ne.symm y)).trans z)
  have st1 : EnZ own St s.heap e it S 0 := ⟨st, .inl ⟨.none, q⟩⟩
  exact wpAny_pure ⟨plainId_quiet F.plain_extend_loop _, gz_fill (s := s) (h0 := s.heap) hn D res hZ n 0 _ s.toks _ #[] [] (Nat.sub_zero _) (Nat.zero_le _) (st1.keep D k) ⟨sh2, rfl, rfl, ⟨.nil, (fun _ z => nomatch z), fun j a z => by simp at z⟩, fun b o y _ _ z => k b o y z⟩⟩
theorem gz_init (hn : n ≤ sizeLine) (D : DrG prog w A.in1.in1 it S e own n P St) (sh : s.heap.get? S = some { cls := .type "list", data := .seq #[] }) (q : IsEnum s.heap e it 0 .none) (st : St 0 s.heap)
    (hZ : ∀ h' tk acc c as, GzAt P own e S s.heap h' n acc c as → Z (.ok (.ret .none)) { s with heap := h', toks := tk }) :
    wpAny (model prog w) A.in1 (Builtin.«list.__init__» ⟨[.ref S, .ref e], []⟩)
      (fun fin s' => match fin with | .done f => Z (.ok f) s' | .again c' => c'.quiet = true ∧ codeAny (model prog w) A c' Z s') (fun x s' => Z (.error x) s') s := by
  have nE : e ≠ S := Nat.ne_of_lt D.eS
  show wpAny _ _ (Builtin.List.listItems (.ref S) >>= fun old => Builtin.List.listUpdate (.ref S) (fun _ => #[]) >>= fun _ => letGo old.toList.reverse >>= fun _ => Builtin.List.listExtendWith (.ref S) (.ref e) .none) _ _ s
  refine wpAny_bind ?_
  unfold Builtin.List.listItems
  refine wpAny_bind (wpAny_seqItems sh rfl (wpAny_pure ?_))
  show wpAny _ _ (updateSeq S (fun _ => #[]) >>= fun _ => letGo (#[] : Array Value).toList.reverse >>= fun _ => Builtin.List.listExtendWith (.ref S) (.ref e) .none) _ _ s
  refine wpAny_bind (wpAny_updateSeq sh rfl ?_)
  have sh1 := Heap.get?_update_self (Obj.mapSeq (fun _ => (#[] : Array Value))) sh rfl
  have k : ∀ b o, b ≠ S → s.heap.get? b = some o → (s.heap.update S (Obj.mapSeq (fun _ => (#[] : Array Value)))).get? b = some o := fun b o y z => (Heap.get?_update_other _ _ (Ne.symm y)).trans z
  refine wpAny_bind (wpAny_letGo ?_)
  exact gz_extend hn D .none sh1 (k _ _ nE q) (D.frame _ _ _ st fun b o n1 _ z => k b o n1 z) fun h' tk acc c as z => hZ h' tk acc c as ⟨z.sh, z.ac, z.ln, z.gr, fun b o y1 y2 y3 y => z.kp b o y1 y2 y3 (k b o y1 y)⟩
theorem gz_call {Q : Value → Shared → Prop} {E : Value → Shared → Prop} (hn : n ≤ sizeLine) (D : DrG prog w A.in1.in1.in1 it s.heap.objs.size e own n P St) (q : IsEnum s.heap e it 0 .none) (st : St 0 (s.heap.push { cls := .type "list", data := .seq #[] }))
    (hQ : ∀ h' tk acc c as, GzAt P own e s.heap.objs.size s.heap h' n acc c as → Q (.ref s.heap.objs.size) { s with heap := h', toks := tk }) :
    wpAny (model prog w) A (call (.type "list") [.ref e]) Q E s := by
  refine callType_codes (Q₁ := fun v s1 => v = .ref s.heap.objs.size ∧ s1 = { s with heap := s.heap.push { cls := .type "list", data := .seq #[] } }) F.called_list (F.typeCall_list_1 _) F.entry_list_init (code_list_new _ ⟨rfl, rfl⟩) fun v s1 y => ?_
  obtain ⟨rfl, rfl⟩ := y
  have sh : (s.heap.push { cls := .type "list", data := .seq #[] }).get? s.heap.objs.size = some { cls := .type "list", data := .seq #[] } := Heap.get?_push_size _ rfl
  refine ⟨⟨_, sh, rfl⟩, F.args_list_init_2 _ _, gz_init (A := A.in1) hn D sh (Heap.get?_push_of_some _ q) st fun h' tk acc c as z => ?_⟩
  exact ⟨rfl, hQ h' tk acc c as ⟨z.sh, z.ac, z.ln, z.gr, fun b o y1 y2 y3 y => z.kp b o y1 y2 y3 (Heap.get?_push_of_some _ y)⟩⟩
end
end PySem

set_option Elab.async false
set_option linter.all false
set_option maxRecDepth 100000
set_option maxHeartbeats 4000000
namespace PySem
section
variable {prog : Program} {w : World} {A : Around} {E : Value → Shared → Prop} {s : Shared} {z TI TO i1 i2 : Addr} {fp1 fp2 : List Addr} {n1 n2 i : Nat} {P1 P2 : Nat → Value → Prop} {St1 St2 : Nat → Heap → Prop} {a1 a2 : Value}
theorem gz_zip_held {T : Addr} {f : Bool} {oT : Obj} {Q : Value → Shared → Prop} (S : ZipSep2 z TI TO i1 i2 fp1 fp2) (D1 : Draws prog w A i1 fp1 n1 P1 St1) (D2 : Draws prog w A i2 fp2 n2 P2 St2)
    (hz : IsZipHeld s.heap z TI TO T f) (hT : s.heap.get? T = some oT) (hTI : IsTupOf2 s.heap TI (.ref i1) (.ref i2)) (st1 : St1 i s.heap) (st2 : St2 i s.heap) (hlt1 : i < n1) (hlt2 : i < n2)
    (hQ : ∀ x1 x2 h' tk, P1 i x1 → P2 i x2 → IsZipHeld h' z TI TO T true → St1 (i + 1) h' → St2 (i + 1) h' → IsTupOf2 h' s.heap.objs.size x1 x2 → h'.objs.size = s.heap.objs.size + 1 →
      (∀ c o, c ≠ z → c ≠ i1 → c ≠ i2 → s.heap.get? c = some o → h'.get? c = some o) → Q (.ref s.heap.objs.size) { s with heap := h', toks := tk }) :
    wpAny (model prog w) A (Builtin.«zip.__next__» ⟨[.ref z], []⟩) (fun fin s' => ∃ v, fin = .done (.ret v) ∧ Q v s') E s := by
  obtain ⟨hp, g, d, tk0, os⟩ := s
  show wpAny _ _ (field (.ref z) 2 >>= _) _ _ _
  refine wpAny_bind (wpAny_field hz rfl (x := .bool false) rfl ?_)
  show wpAny _ _ (field (.ref z) 3 >>= _) _ _ _
  refine wpAny_bind (wpAny_field hz rfl (x := .ref TI) rfl ?_)
  refine wpAny_bind (wpAny_seqItems hTI rfl ?_)
  show wpAny _ _ (Builtin.SmallTypes.ownedTupleIsFree (.ref z) >>= _) _ _ _
  refine wpAny_bind (wpAny_tupleHeld_zip hz hT fun g0 hz0 hs0 => ?_)
  replace hs0 : Heap.SameBut z hp g0 := hs0
  simp only [Bool.false_eq_true, if_false]
  refine wpAny_bind ?_
  rw [← Array.forIn_toList]
  simp only [List.forIn_cons, List.forIn_nil]
  refine wpAny_bind (wpAny_bind (wpAny_holding ?_))
  show wpAny _ _ (Builtin.SmallTypes.nextOf (.ref i1) >>= _) _ _ ⟨g0, g, d, tk0, os⟩
  refine wpAny_bind (D1.item i _ _ _ hlt1 (D1.over st1 hs0 S.zf1) fun x1 p1 tk1 hx1 sn1 hp1 => wpAny_pure ?_)
  replace hp1 : Heap.SameBut i1 g0 p1 := hp1
  refine wpAny_pure ?_
  refine wpAny_bind (wpAny_bind (wpAny_holding ?_))
  show wpAny _ _ (Builtin.SmallTypes.nextOf (.ref i2) >>= _) _ _ ⟨p1, g, d, tk1, os⟩
  refine wpAny_bind (D2.item i _ _ _ hlt2 (D2.over (D2.over st2 hs0 S.zf2) hp1 S.sep1_2) fun x2 p2 tk2 hx2 sn2 hp2 => wpAny_pure ?_)
  replace hp2 : Heap.SameBut i2 p1 p2 := hp2
  refine wpAny_pure (wpAny_pure ?_)
  show wpAny _ _ (newTuple [x1, x2] >>= _) _ _ ⟨p2, g, d, tk2, os⟩
  refine wpAny_bind (wpAny_newTuple ?_)
  have hsz : p2.objs.size = hp.objs.size := by rw [hp2.1, hp1.1, hs0.1]
  have hzz : IsZipHeld p2 z TI TO T true := hp2.extBut _ _ S.zi2 (hp1.extBut _ _ S.zi1 hz0)
  have hk : ∀ c o, c ≠ z → c ≠ i1 → c ≠ i2 → hp.get? c = some o → p2.get? c = some o := fun c o cz c1 c2 e => hp2.extBut _ _ c2 (hp1.extBut _ _ c1 (hs0.extBut _ _ cz e))
  have hj1 : St1 (i + 1) p2 := D1.over sn1 hp2 S.sep2_1
  refine wpAny_pure ⟨_, rfl, ?_⟩
  show Q (.ref p2.objs.size) ⟨_, g, d, tk2, os⟩
  have hp' : IsTupOf2 (p2.push { cls := .type "tuple", data := .seq #[x1, x2] }) p2.objs.size x1 x2 := Heap.get?_push_size _ rfl
  have hz4 : (p2.push { cls := .type "tuple", data := .seq #[x1, x2] }).objs.size = p2.objs.size + 1 := Heap.size_push ..
  rw [hsz] at hp' hz4 ⊢
  exact hQ x1 x2 _ tk2 hx1 hx2 (Heap.get?_push_of_some _ hzz) (D1.frame _ _ _ hj1 fun b hb o e => Heap.get?_push_of_some _ e) (D2.frame _ _ _ sn2 fun b hb o e => Heap.get?_push_of_some _ e) hp' hz4 fun c o cz c1 c2 e => Heap.get?_push_of_some _ (hk c o cz c1 c2 e)
theorem gz_zip_held_end {T : Addr} {f : Bool} {oT : Obj} {Q : Fin → Shared → Prop} (S : ZipSep2 z TI TO i1 i2 fp1 fp2) (D1 : Draws prog w A i1 fp1 n1 P1 St1) (D2 : Draws prog w A i2 fp2 n2 P2 St2)
    (hz : IsZipHeld s.heap z TI TO T f) (hT : s.heap.get? T = some oT) (hTI : IsTupOf2 s.heap TI (.ref i1) (.ref i2)) (st1 : St1 i s.heap) (st2 : St2 i s.heap) (h1 : i = n1)
    (hE : ∀ h' tk e, (∀ c o, c ≠ z → c ≠ i1 → c ≠ i2 → s.heap.get? c = some o → h'.get? c = some o) → (∃ o, h'.get? e = some o ∧ o.cls = .type "StopIteration") → E (.ref e) { s with heap := h', toks := tk }) :
    wpAny (model prog w) A (Builtin.«zip.__next__» ⟨[.ref z], []⟩) Q E s := by
  obtain ⟨hp, g, d, tk0, os⟩ := s
  show wpAny _ _ (field (.ref z) 2 >>= _) _ _ _
  refine wpAny_bind (wpAny_field hz rfl (x := .bool false) rfl ?_)
  show wpAny _ _ (field (.ref z) 3 >>= _) _ _ _
  refine wpAny_bind (wpAny_field hz rfl (x := .ref TI) rfl ?_)
  refine wpAny_bind (wpAny_seqItems hTI rfl ?_)
  show wpAny _ _ (Builtin.SmallTypes.ownedTupleIsFree (.ref z) >>= _) _ _ _
  refine wpAny_bind (wpAny_tupleHeld_zip hz hT fun g0 hz0 hs0 => ?_)
  replace hs0 : Heap.SameBut z hp g0 := hs0
  simp only [Bool.false_eq_true, if_false]
  refine wpAny_bind ?_
  rw [← Array.forIn_toList]
  simp only [List.forIn_cons, List.forIn_nil]
  refine wpAny_bind (wpAny_bind (wpAny_holding ?_))
  show wpAny _ _ (Builtin.SmallTypes.nextOf (.ref i1) >>= _) _ _ ⟨g0, g, d, tk0, os⟩
  refine wpAny_bind (D1.done ⟨g0, g, d, tk0, os⟩ _ _ (by rw [← h1]; exact D1.over st1 hs0 S.zf1) fun q e hq he => ?_)
  replace hq : Heap.ExtBut i1 g0 q := hq
  exact hE q tk0 e (fun c o cz c1 c2 x => hq _ _ c1 (hs0.extBut _ _ cz x)) he
/-- what stands ahead of turn i of the zip -/
def ZipSt (St1 St2 : Nat → Heap → Prop) (z TI TO i1 i2 S e : Addr) (i : Nat) (h : Heap) : Prop := IsTupOf2 h TI (.ref i1) (.ref i2) ∧ St1 i h ∧ St2 i h ∧
  ((IsZip h z TI TO .none ∧ ∃ a1 a2, IsTupOf2 h TO a1 a2) ∨ ∃ T f oT, IsZipHeld h z TI TO T f ∧ h.get? T = some oT ∧ T ≠ z ∧ T ≠ TO ∧ T ≠ i1 ∧ T ≠ i2 ∧ T ≠ S ∧ T ≠ e)
theorem nextOf_zip {z : Addr} {Q : Value → Shared → Prop} (hy : s.TypeIs (.ref z) "zip") (h : wpAny (model prog w) A.in1 (Builtin.«zip.__next__» ⟨[.ref z], []⟩) (fun fin s' => ∃ v, fin = .done (.ret v) ∧ Q v s') E s) : wpAny (model prog w) A (Builtin.SmallTypes.nextOf (.ref z)) Q E s := by
  unfold Builtin.SmallTypes.nextOf
  refine wpAny_bind (wpAny_callSpecial?_slot (name := Str.ofString "__next__") hy F.slot_zip_next (wpAny_call_entry F.slot_zip_next hy F.entry_zip_next ?_ (F.args_zip_next_1 _)))
  refine wpAny_mono h (fun fin s' ⟨v, e, q⟩ => ⟨v, e, wpAny_pure q⟩) fun _ _ q => q
end
end PySem

set_option Elab.async false
set_option linter.all false
set_option maxRecDepth 100000
set_option maxHeartbeats 4000000
namespace PySem
section
variable {prog : Program} {w : World} {A : Around} {E : Value → Shared → Prop} {s : Shared} {z TI TO i1 i2 S e : Addr} {fp1 fp2 : List Addr} {n : Nat} {P1 P2 : Nat → Value → Prop} {St1 St2 : Nat → Heap → Prop}
theorem DrG.zip (Sp : ZipSep2 z TI TO i1 i2 fp1 fp2) (D1 : Draws prog w A.in1 i1 fp1 n P1 St1) (D2 : Draws prog w A.in1 i2 fp2 n P2 St2) (eS : e < S) (lz : z < e) (lI : TI < e) (lO : TO < e) (l1 : i1 < e) (l2 : i2 < e) (f1 : ∀ b ∈ fp1, b < e) (f2 : ∀ b ∈ fp2, b < e) :
    DrG prog w A z S e [z, TO, i1, i2] n (fun i x h => ∃ T x1 x2, x = .ref T ∧ P1 i x1 ∧ P2 i x2 ∧ h.get? T = some { cls := .type "tuple", data := .seq #[x1, x2] } ∧ S < T) (ZipSt St1 St2 z TI TO i1 i2 S e) where
  live := fun i h ⟨_, _, _, q⟩ => by
    rcases q with ⟨q, _⟩ | ⟨T, f, oT, q, _⟩
    · exact ⟨_, q⟩
    · exact ⟨_, q⟩
  mem := by simp
  lo := fun b hb => by
    simp only [List.mem_cons, List.not_mem_nil, or_false] at hb
    rcases hb with rfl | rfl | rfl | rfl <;> assumption
  eS := eS
  frame := fun i h h' ⟨hTI, s1, s2, q⟩ k => by
    have kl : ∀ b o, b < e → h.get? b = some o → h'.get? b = some o := fun b o lb g => k b o (Nat.ne_of_lt (Nat.lt_trans lb eS)) (Nat.ne_of_lt lb) g
    refine ⟨kl _ _ lI hTI, D1.frame _ _ _ s1 fun b hb o g => kl b o (f1 b hb) g, D2.frame _ _ _ s2 fun b hb o g => kl b o (f2 b hb) g, ?_⟩
    rcases q with ⟨q, a1, a2, hTO⟩ | ⟨T, f, oT, q, y, r1, r2, r3, r4, r5, r6⟩
    · exact .inl ⟨kl _ _ lz q, a1, a2, kl _ _ lO hTO⟩
    · exact .inr ⟨T, f, oT, kl _ _ lz q, k T oT r5 r6 y, r1, r2, r3, r4, r5, r6⟩
  pk := fun i x h h' ⟨T, x1, x2, ex, p1, p2, hT, l⟩ k => by
    refine ⟨T, x1, x2, ex, p1, p2, k T _ (Nat.ne_of_gt l) (Nat.ne_of_gt (Nat.lt_trans eS l)) (fun z => ?_) hT, l⟩
    simp only [List.mem_cons, List.not_mem_nil, or_false] at z
    rcases z with rfl | rfl | rfl | rfl
    · exact Nat.lt_asymm (Nat.lt_trans eS l) lz
    · exact Nat.lt_asymm (Nat.lt_trans eS l) lO
    · exact Nat.lt_asymm (Nat.lt_trans eS l) l1
    · exact Nat.lt_asymm (Nat.lt_trans eS l) l2
  item := fun i s Q E hi ⟨hTI, s1, s2, q⟩ lS hQ => by
    have lt : ∀ {c}, c < e → s.heap.objs.size ≠ c := fun lc => Nat.ne_of_gt (Nat.lt_trans lc (Nat.lt_trans eS lS))
    have nm : ∀ {c : Addr}, c ∉ [z, TO, i1, i2] → c ≠ z ∧ c ≠ TO ∧ c ≠ i1 ∧ c ≠ i2 := fun h => ⟨fun q => h (by simp [q]), fun q => h (by simp [q]), fun q => h (by simp [q]), fun q => h (by simp [q])⟩
    rcases q with ⟨q, a1, a2, hTO⟩ | ⟨T, f, oT, q, y, r1, r2, r3, r4, r5, r6⟩
    · refine nextOf_zip ⟨_, q, rfl⟩ (zipD2_next_item Sp D1 D2 q hTI hTO s1 s2 hi hi fun x1 x2 h' tk p1 p2 hz' hTO' s1' s2' hT' hsz hk => ?_)
      refine hQ s.heap.objs.size h' tk ⟨_, x1, x2, rfl, p1, p2, hT', lS⟩ ⟨hk _ _ Sp.TIz Sp.TITO Sp.TIi1 Sp.TIi2 hTI, s1', s2', .inr ⟨_, false, _, hz', hT', lt lz, lt lO, lt l1, lt l2, Nat.ne_of_gt lS, Nat.ne_of_gt (Nat.lt_trans eS lS)⟩⟩ (fun b o hb g => ?_) (Nat.le_refl _) (by rw [hsz]; exact Nat.lt_succ_self _)
      obtain ⟨b1, b2, b3, b4⟩ := nm hb
      exact hk b o b1 b2 b3 b4 g
    · refine nextOf_zip ⟨_, q, rfl⟩ (gz_zip_held Sp D1 D2 q y hTI s1 s2 hi hi fun x1 x2 h' tk p1 p2 hz' s1' s2' hT' hsz hk => ?_)
      refine hQ s.heap.objs.size h' tk ⟨_, x1, x2, rfl, p1, p2, hT', lS⟩ ⟨hk _ _ Sp.TIz Sp.TIi1 Sp.TIi2 hTI, s1', s2', .inr ⟨T, true, oT, hz', hk _ _ r1 r3 r4 y, r1, r2, r3, r4, r5, r6⟩⟩ (fun b o hb g => ?_) (Nat.le_refl _) (by rw [hsz]; exact Nat.lt_succ_self _)
      obtain ⟨b1, b2, b3, b4⟩ := nm hb
      exact hk b o b1 b3 b4 g
  done := fun s Q E ⟨hTI, s1, s2, q⟩ hE => by
    have nm : ∀ {c : Addr}, c ∉ [z, TO, i1, i2] → c ≠ z ∧ c ≠ TO ∧ c ≠ i1 ∧ c ≠ i2 := fun h => ⟨fun q => h (by simp [q]), fun q => h (by simp [q]), fun q => h (by simp [q]), fun q => h (by simp [q])⟩
    rcases q with ⟨q, a1, a2, hTO⟩ | ⟨T, f, oT, q, y, r1, r2, r3, r4, r5, r6⟩
    · refine nextOf_zip ⟨_, q, rfl⟩ (zipD2_next_end Sp D1 D2 q hTI hTO s1 s2 (Nat.le_refl _) (Nat.le_refl _) (.inl rfl) fun h' tk x hk he => hE h' tk x (fun b o hb g => ?_) he)
      obtain ⟨b1, b2, b3, b4⟩ := nm hb
      exact hk b o b1 b2 b3 b4 g
    · refine nextOf_zip ⟨_, q, rfl⟩ (gz_zip_held_end Sp D1 D2 q y hTI s1 s2 rfl fun h' tk x hk he => hE h' tk x (fun b o hb g => ?_) he)
      obtain ⟨b1, b2, b3, b4⟩ := nm hb
      exact hk b o b1 b3 b4 g
set_option maxHeartbeats 1000000 in
theorem gz_meets_enum {z TI TO : Addr} :
    Meets (Builtin.«enumerate.__new__» ⟨[.type "enumerate", .ref z], []⟩) (fun _ R s => IsZip s.heap z TI TO .none ∧
      R (.ok (.ret (.ref s.heap.objs.size))) { s with heap := s.heap.push { cls := .type "enumerate", data := .fields #[.none, .bool false, .ref z, rawInt 0, .none, .none] } }) :=
  .of_wp fun prog w A R s h => by
    obtain ⟨hp, g, d, tk, os⟩ := s; obtain ⟨h1, h⟩ := h
    have hsub := sub_enumerate
    have q1 : ∀ {A' : Around} {E : Value → Shared → Prop} {Q : Value → Shared → Prop}, Q (.ref z) ⟨hp, g, d, tk, os⟩ → wpAny (model prog w) A' (pyIter (.ref z)) Q E ⟨hp, g, d, tk, os⟩ :=
      fun q => wpAny_pyIter_zip (s := ⟨hp, g, d, tk, os⟩) h1 q
    wp_walk using q1
    refine wpAny_stack_any fun st => wpAny_pure ?_
    split
    · rename_i c _ _ _ _ _
      cases (c == Value.type "enumerate")
      · wp_walk using q1
        exact ⟨_, rfl, h⟩
      · wp_walk using q1
        exact ⟨_, rfl, h⟩
    · wp_walk using q1
      exact ⟨_, rfl, h⟩
theorem gz_enum {z TI TO : Addr} {Q : Value → Shared → Prop} (hz : IsZip s.heap z TI TO .none)
    (h : ∀ h', IsEnum h' s.heap.objs.size z 0 .none → h'.objs.size = s.heap.objs.size + 1 → (∀ b o, s.heap.get? b = some o → h'.get? b = some o) → Q (.ref s.heap.objs.size) { s with heap := h' }) :
    wpAny (model prog w) A (call (.type "enumerate") [.ref z]) Q E s := by
  refine callType_new F.called_enumerate (by decide) (F.typeCall_enumerate_1 _) (F.newCall_enumerate_1 _) (fun obj => F.args_object_init_2 obj _) F.entry_enumerate_new
    gz_meets_enum ⟨hz, ?_⟩
  have he : IsEnum (s.heap.push { cls := .type "enumerate", data := .fields #[.none, .bool false, .ref z, rawInt 0, .none, .none] }) s.heap.objs.size z 0 .none := Heap.get?_push_size _ rfl
  show _ ∧ _
  exact ⟨⟨_, he, rfl⟩, h _ he (Heap.size_push ..) fun b o x => Heap.get?_push_of_some _ x⟩
end
end PySem

set_option Elab.async false
set_option linter.all false
set_option maxRecDepth 100000
set_option maxHeartbeats 4000000
namespace GX
open PySem PySem.Spec PyProof.Rows L2
/-- things put at their addresses -/
def putA (H : Hp) : List (Addr × HO) → Hp
  | [] => H
  | p :: l => putA (upd H p.1 p.2) l
theorem putA_off {b : Addr} : ∀ (l : List (Addr × HO)) (H : Hp), (∀ p ∈ l, p.1 < b ∨ b < p.1) → putA H l b = H b
  | [], _, _ => rfl
  | p :: l, H, h => by
    show putA (upd H p.1 p.2) l b = H b
    rw [putA_off l _ fun q hq => h q (List.mem_cons_of_mem _ hq), upd_ne]
    rcases h p List.mem_cons_self with z | z
    · exact Nat.ne_of_gt z
    · exact Nat.ne_of_lt z
theorem putA_on : ∀ (l : List (Addr × HO)) (H : Hp), l.Pairwise (fun p q => p.1 < q.1) → ∀ p ∈ l, putA H l p.1 = some p.2
  | [], _, _, p, hp => by cases hp
  | q :: l, H, hw, p, hp => by
    obtain ⟨h1, h2⟩ := List.pairwise_cons.mp hw
    show putA (upd H q.1 q.2) l p.1 = _
    rcases List.mem_cons.mp hp with e | hp
    · rw [e, putA_off l _ fun r hr => .inr (h1 r hr), upd_same]
    · exact putA_on l _ h2 p hp
def asgZ : Nat → List (Addr × Addr) → List V → List V → List (Addr × HO)
  | j, q :: qs, x :: xs, y :: ys => (q.1, .tup [x, y]) :: (q.2, .tup [.int (j : Nat), .ref q.1]) :: asgZ (j + 1) qs xs ys
  | _, _, _, _ => []
theorem asgZ_mem {p : Addr × HO} : ∀ {qs : List (Addr × Addr)} {xs ys : List V} {j : Nat}, p ∈ asgZ j qs xs ys → ∃ (i : Nat) (q : Addr × Addr) (x y : V), qs[i]? = some q ∧ xs[i]? = some x ∧ ys[i]? = some y ∧ (p = (q.1, .tup [x, y]) ∨ p = (q.2, .tup [.int ((j + i : Nat) : Int), .ref q.1]))
  | [], _, _, _, h => by cases h
  | _ :: _, [], _, _, h => by cases h
  | _ :: _, _ :: _, [], _, h => by cases h
  | q :: qs, x :: xs, y :: ys, j, h => by
    have h : p ∈ (q.1, HO.tup [x, y]) :: (q.2, HO.tup [.int (j : Nat), .ref q.1]) :: asgZ (j + 1) qs xs ys := h
    rcases List.mem_cons.mp h with e | h
    · exact ⟨0, q, x, y, rfl, rfl, rfl, .inl e⟩
    · rcases List.mem_cons.mp h with e | h
      · exact ⟨0, q, x, y, rfl, rfl, rfl, .inr e⟩
      · obtain ⟨i, q', x', y', h1, h2, h3, h4⟩ := asgZ_mem h
        refine ⟨i + 1, q', x', y', by simpa using h1, by simpa using h2, by simpa using h3, ?_⟩
        rw [show j + (i + 1) = j + 1 + i by omega]
        exact h4
theorem asgZ_has : ∀ {qs : List (Addr × Addr)} {xs ys : List V} {j i : Nat} {q : Addr × Addr} {x y : V}, qs[i]? = some q → xs[i]? = some x → ys[i]? = some y → (q.1, .tup [x, y]) ∈ asgZ j qs xs ys ∧ (q.2, .tup [.int ((j + i : Nat) : Int), .ref q.1]) ∈ asgZ j qs xs ys
  | [], _, _, _, i, _, _, _, h, _, _ => by simp at h
  | _ :: _, [], _, _, i, _, _, _, _, h, _ => by simp at h
  | _ :: _, _ :: _, [], _, i, _, _, _, _, _, h => by simp at h
  | q0 :: qs, x0 :: xs, y0 :: ys, j, 0, q, x, y, h1, h2, h3 => by
    obtain rfl : q0 = q := by simpa using h1
    obtain rfl : x0 = x := by simpa using h2
    obtain rfl : y0 = y := by simpa using h3
    exact ⟨List.mem_cons_self, List.mem_cons_of_mem _ List.mem_cons_self⟩
  | q0 :: qs, x0 :: xs, y0 :: ys, j, i + 1, q, x, y, h1, h2, h3 => by
    obtain ⟨a, b⟩ := asgZ_has (j := j + 1) (i := i) (by simpa using h1 : qs[i]? = some q) (by simpa using h2 : xs[i]? = some x) (by simpa using h3 : ys[i]? = some y)
    rw [show j + (i + 1) = j + 1 + i by omega]
    exact ⟨List.mem_cons_of_mem _ (List.mem_cons_of_mem _ a), List.mem_cons_of_mem _ (List.mem_cons_of_mem _ b)⟩
theorem asgZ_ord {lo : Addr} : ∀ {qs : List (Addr × Addr)} {xs ys : List V} {j : Nat}, qs.Pairwise (fun p q => p.2 < q.1) → (∀ p ∈ qs, lo < p.1 ∧ p.1 < p.2) → (asgZ j qs xs ys).Pairwise (fun p q => p.1 < q.1) ∧ ∀ p ∈ asgZ j qs xs ys, lo < p.1
  | [], _, _, _, _, _ => ⟨.nil, fun p h => by cases h⟩
  | _ :: _, [], _, _, _, _ => ⟨.nil, fun p h => by cases h⟩
  | _ :: _, _ :: _, [], _, _, _ => ⟨.nil, fun p h => by cases h⟩
  | q :: qs, x :: xs, y :: ys, j, hw, hl => by
    obtain ⟨h1, h2⟩ := List.pairwise_cons.mp hw
    obtain ⟨l1, l2⟩ := hl q List.mem_cons_self
    obtain ⟨i1, i2⟩ := asgZ_ord (lo := q.2) (xs := xs) (ys := ys) (j := j + 1) h2 fun p hp => ⟨h1 p hp, (hl p (List.mem_cons_of_mem _ hp)).2⟩
    refine ⟨List.pairwise_cons.mpr ⟨fun p hp => ?_, List.pairwise_cons.mpr ⟨fun p hp => i2 p hp, i1⟩⟩, fun p hp => ?_⟩
    · rcases List.mem_cons.mp hp with e | hp
      · rw [e]; exact l2
      · exact Nat.lt_trans l2 (i2 p hp)
    · rcases List.mem_cons.mp hp with e | hp
      · rw [e]; exact l1
      · rcases List.mem_cons.mp hp with e | hp
        · rw [e]; exact Nat.lt_trans l1 l2
        · exact Nat.lt_trans (Nat.lt_trans l1 l2) (i2 p hp)
/-- ts hold (0, (x0, y0)), (1, (x1, y1)) .. -/
def EnumZ (H : Hp) (ts : List (Addr × Addr)) (xs ys : List V) : Prop := ts.length = xs.length ∧ ∀ j q, ts[j]? = some q → ∃ x y, xs[j]? = some x ∧ ys[j]? = some y ∧ H q.2 = some (.tup [.int (j : Nat), .ref q.1]) ∧ H q.1 = some (.tup [x, y])
theorem refs_valsZ : ∀ as : List (Addr × Addr), Vals (as.map fun q => V.ref q.2) (as.map fun q => Value.ref q.2)
  | [] => .nil
  | _ :: as => .cons rfl (refs_valsZ as)
section
variable {X : Cx}
theorem enumz_laid {pins : List (Addr × Obj)} {σ : L2.St} {H : Hp} {s : Shared} {h' : Heap} {tk : Nat} {xs ys : List V} {its jts : List Value} {acc : Array Value} {c : Nat} {qs : List (Addr × Addr)} {S : Addr} (I : Inv X pins σ H s) (l0 : s.heap.objs.size ≤ S) (hz : xs.length ≤ sizeLine) (rv : Vals xs its) (rw2 : Vals ys jts) (hxy : xs.length = ys.length)
    (hk : ∀ b o, s.heap.get? b = some o → h'.get? b = some o) (sh : h'.get? S = some { cls := .type "list", dict := none, data := .seq acc c, slots := #[] }) (hl : qs.length = its.toArray.size)
    (g : GzG (fun i x h => ∃ T x1 x2, x = .ref T ∧ its.toArray[i]? = some x1 ∧ jts.toArray[i]? = some x2 ∧ h.get? T = some { cls := .type "tuple", data := .seq #[x1, x2] } ∧ S < T) S h' qs) (ac : acc.toList = qs.map fun p => Value.ref p.2) :
    ∃ H' : Hp, Same H H' ∧ H S = none ∧ H' S = some (.lst (qs.map fun q => V.ref q.2)) ∧ EnumZ H' qs xs ys ∧ Inv X pins σ H' { s with heap := h', toks := tk } := by
  have lx : qs.length = xs.length := by rw [hl, rv.length]; simp
  obtain ⟨o1, o2⟩ := asgZ_ord (lo := S) (xs := xs) (ys := ys) (j := 0) g.ord g.above
  have newS : H S = none := I.hok.fresh l0
  have new : ∀ b, S < b → H b = none := fun b hb => I.hok.fresh (Nat.le_trans l0 (Nat.le_of_lt hb))
  have on := putA_on (asgZ 0 qs xs ys) (upd H S (.lst (qs.map fun q => V.ref q.2))) o1
  have off : ∀ b, b < S → putA (upd H S (.lst (qs.map fun q => V.ref q.2))) (asgZ 0 qs xs ys) b = H b := fun b hb => by
    rw [putA_off _ _ fun p hp => .inr (Nat.lt_trans hb (o2 p hp)), upd_ne (Nat.ne_of_lt hb)]
  have atS : putA (upd H S (.lst (qs.map fun q => V.ref q.2))) (asgZ 0 qs xs ys) S = some (.lst (qs.map fun q => V.ref q.2)) := by
    rw [putA_off _ _ fun p hp => .inr (o2 p hp), upd_same]
  have only : ∀ b, S < b → (∀ p ∈ asgZ 0 qs xs ys, p.1 ≠ b) → putA (upd H S (.lst (qs.map fun q => V.ref q.2))) (asgZ 0 qs xs ys) b = none := fun b hb hn => by
    rw [putA_off _ _ fun p hp => Nat.lt_or_gt_of_ne (hn p hp), upd_ne (Nat.ne_of_gt hb)]
    exact new b hb
  generalize putA (upd H S (.lst (qs.map fun q => V.ref q.2))) (asgZ 0 qs xs ys) = H' at on off atS only
  have low : ∀ b u, H b = some u → b < S := fun b u q => by
    rcases Nat.lt_trichotomy b S with z | z | z
    · exact z
    · rw [z, newS] at q; cases q
    · rw [new b z] at q; cases q
  have kp : ∀ b u, H b = some u → H' b = some u := fun b u q => by rw [off b (low b u q)]; exact q
  refine ⟨H', kp, newS, atS, ⟨lx, fun j q hq => ?_⟩, ?_⟩
  · have hj := (List.getElem?_eq_some_iff.mp hq).1
    obtain ⟨x, hx⟩ : ∃ x, xs[j]? = some x := ⟨_, List.getElem?_eq_getElem (by omega)⟩
    obtain ⟨y, hy⟩ : ∃ y, ys[j]? = some y := ⟨_, List.getElem?_eq_getElem (by omega)⟩
    obtain ⟨m1, m2⟩ := asgZ_has (j := 0) hq hx hy
    rw [Nat.zero_add] at m2
    exact ⟨x, y, hx, hy, on _ m2, on _ m1⟩
  refine I.call' (ch := []) rfl ⟨fun b o q _ _ _ => hk b o q, fun b o q _ _ _ => ⟨o.slots, hk b o q⟩, fun b o q n _ => ?_, fun b o q _ => ⟨o, hk b o q⟩, fun b ys q => kp b _ q, fun b o u q => kp b _ q, fun b ps q => ⟨#[], by rw [kp b _ q]; simp⟩⟩ (fun b u q => ?_) I.bare fun b z => by simp at z
  · rw [off b (Nat.lt_of_lt_of_le (Heap.lt_size q) l0)]
    exact n
  · rcases Nat.lt_trichotomy b S with hb | hb | hb
    · rw [off b hb] at q
      exact (I.hok b u q).stay (fun d v _ y => hk d v y) (fun d y => kp d _ y) fun d ys y => kp d _ y
    · subst hb
      rw [atS] at q
      cases q
      exact ⟨by rw [List.length_map]; omega, acc.toList, c, by rw [ac]; exact refs_valsZ qs, by rw [Array.toArray_toList]; exact sh⟩
    · by_cases hm : ∃ p ∈ asgZ 0 qs xs ys, p.1 = b
      · obtain ⟨p, hp, rfl⟩ := hm
        have := on p hp
        rw [q] at this
        obtain rfl : u = p.2 := Option.some.inj this
        obtain ⟨i, qq, x, y, h1, h2, h3, h4⟩ := asgZ_mem hp
        obtain ⟨t, ⟨T, x1, x2, eT, e1, e2, e3, _⟩, e4⟩ := g.pairs i qq h1
        cases eT
        rcases h4 with rfl | rfl
        · obtain ⟨u1, v1, w1⟩ := rv.get h2
          obtain ⟨u2, v2, w2⟩ := rw2.get h3
          have e1 : its[i]? = some x1 := by simpa using e1
          have e2 : jts[i]? = some x2 := by simpa using e2
          rw [v1] at e1
          rw [v2] at e2
          cases e1
          cases e2
          exact ⟨by show 2 ≤ sizeLine; decide, [_, _], .cons w1 (.cons w2 .nil), ⟨_, e3, rfl, _, rfl⟩⟩
        · refine ⟨by show 2 ≤ sizeLine; decide, [.int i t, .ref qq.1], .cons ⟨t, by simp⟩ (.cons rfl .nil), ⟨_, e4, rfl, _, rfl⟩⟩
      · rw [only b hb fun p hp e => hm ⟨p, hp, e⟩] at q
        cases q
end
end GX

set_option Elab.async false
set_option linter.all false
set_option maxRecDepth 100000
set_option maxHeartbeats 4000000
namespace GX
open PySem PySem.Spec PyProof.Rows L2
theorem znm (x y c : Nat) (h1 : c ≠ x) (h2 : c ≠ y) : c ∉ [x, y] := by
  simp; exact ⟨h1, h2⟩
theorem zne (x y : Nat) (h : x < y ∨ y < x) : x ≠ y := by omega
theorem zsep (m a b : Nat) (la : a < m) (lb : b < m) : ZipSep2 (m + 4) (m + 2) (m + 3) m (m + 1) [m, a] [m + 1, b] where
  TIz := zne (m + 2) (m + 4) (by omega)
  TOz := zne (m + 3) (m + 4) (by omega)
  TITO := zne (m + 2) (m + 3) (by omega)
  TIi1 := zne (m + 2) m (by omega)
  mem1 := by simp
  zf1 := znm m a (m + 4) (zne _ _ (by omega)) (zne _ _ (by omega))
  Tf1 := znm m a (m + 3) (zne _ _ (by omega)) (zne _ _ (by omega))
  TIi2 := zne (m + 2) (m + 1) (by omega)
  mem2 := by simp
  zf2 := znm (m + 1) b (m + 4) (zne _ _ (by omega)) (zne _ _ (by omega))
  Tf2 := znm (m + 1) b (m + 3) (zne _ _ (by omega)) (zne _ _ (by omega))
  sep1_2 := znm (m + 1) b m (zne _ _ (by omega)) (zne _ _ (by omega))
  sep2_1 := znm m a (m + 1) (zne _ _ (by omega)) (zne _ _ (by omega))
theorem zlt4 (m k : Nat) (q : k = m + 5) : m + 4 < k := by omega
theorem zlt3 (m k : Nat) (q : k = m + 5) : m + 3 < k := by omega
theorem zlt2 (m k : Nat) (q : k = m + 5) : m + 2 < k := by omega
theorem zlt1 (m k : Nat) (q : k = m + 5) : m + 1 < k := by omega
theorem zlt0 (m k : Nat) (q : k = m + 5) : m < k := by omega
theorem zltE (m k c : Nat) (q : k = m + 5) (h : c < m) : c < k := by omega
theorem zltA (m k a c : Nat) (q : k = m + 5) (la : a < m) (h : c ∈ [m, a]) : c < k := by
  simp at h; omega
theorem zltB (m k a c : Nat) (q : k = m + 5) (la : a < m) (h : c ∈ [m + 1, a]) : c < k := by
  simp at h; omega
theorem zno (m c : Nat) (h : c < m) : c ∉ [m + 4, m + 3, m, m + 1] := by
  simp; omega
theorem boot_zip0 : bootBuiltins "zip" = some (.type "zip") := PyProof.Rows.boot_zip
section
variable {X : Cx}
/-- what a walk over a list or a tuple needs -/
theorem gz_src {pins : List (Addr × Obj)} {σ : L2.St} {H : Hp} {s : Shared} {a : Addr} {xs : List V} (I : Inv X pins σ H s) (h : SqL X.K H a xs ∨ SqT X.K H a xs) :
    ∃ its : List Value, Vals xs its ∧ xs.length ≤ sizeLine ∧ a < s.heap.objs.size ∧ ((s.heap.IsList a its.toArray) ∨ (s.heap.IsTuple a its.toArray)) := by
  rcases h with h | h
  · obtain ⟨its, rv, pl, hz⟩ := I.list h
    exact ⟨its, rv, hz, pl.lt, .inl pl.isList⟩
  · obtain ⟨its, rv, pl, hz⟩ := I.tuple h
    exact ⟨its, rv, hz, pl.lt, .inr pl⟩
structure Src (prog : Program) (w : World) (hh : Prop) (a : Addr) (items : Array Value) (h : Heap) : Prop where
  go : ∃ (o : Obj) (Hb : Heap → Prop), Begins (.ref a) o Hb ∧ Hb h ∧ ∀ (A : Around) (it : Addr), A.handled = none → a ≠ it → ∃ St : Nat → Heap → Prop, Draws prog w A it [it, a] items.size (fun i v => items[i]? = some v) St ∧ ∀ h', (∀ b o', h.get? b = some o' → h'.get? b = some o') → h'.get? it = some o → St 0 h'
theorem src_of {prog : Program} {w : World} {a : Addr} {items : Array Value} {h : Heap} (q : (h.IsList a items) ∨ (h.IsTuple a items)) : Src prog w True a items h := by
  rcases q with q | q
  · exact ⟨⟨_, _, begins_list a items, q, fun A it hh ne => ⟨_, Draws.list hh it a ne items, fun h' k e => ⟨⟨_, e, rfl, rfl⟩, q.at fun o y => k a o y⟩⟩⟩⟩
  · exact ⟨⟨_, _, begins_tuple a items, q, fun A it hh ne => ⟨_, Draws.tuple hh it a ne items, fun h' k e => ⟨⟨_, e, rfl, rfl⟩, q.at fun o y => k a o y⟩⟩⟩⟩
def rEnumZL (K : PySem.W.Frag) : List V → Hp → VK → Prop := fun vs H Q => ∃ (a b : Addr) (xs ys : List V), vs = [.ref a, .ref b] ∧ (SqL K H a xs ∨ SqT K H a xs) ∧ (SqL K H b ys ∨ SqT K H b ys) ∧ xs.length = ys.length ∧
  ∀ (H' : Hp) (p : Addr) (ts : List (Addr × Addr)), Same H H' → H p = none → H' p = some (.lst (ts.map fun q => V.ref q.2)) → EnumZ H' ts xs ys → Q (.ref p) H'
def tListEnumZ (K : PySem.W.Frag) (ta : TA) : TE := fun σ H Q => ta σ H fun vs H1 => rEnumZL K vs H1 Q
variable {e1 e2 : Expr} {ta : TA} {p p2 p3 pos pos2 pos3 : Pos}
theorem pe_listEnumZ (hc : X.calm = true) (he : PA X [e1, e2] ta) (hg : Gl X "list") (hm : X.mg "list" = none) (hv : bootBuiltins "list" = some (.type "list")) (hg2 : Gl X "enumerate") (hm2 : X.mg "enumerate" = none) (hg3 : Gl X "zip") (hm3 : X.mg "zip" = none)
    (hs : starEach [.Call (.Name "enumerate" p2) [.Call (.Name "zip" p3) [e1, e2] [] pos3] [] pos2] X.env = [(false, eval (.Call (.Name "enumerate" p2) [.Call (.Name "zip" p3) [e1, e2] [] pos3] [] pos2) X.env)] := by rfl)
    (hs2 : starEach [.Call (.Name "zip" p3) [e1, e2] [] pos3] X.env = [(false, eval (.Call (.Name "zip" p3) [e1, e2] [] pos3) X.env)] := by rfl)
    (hs3 : starEach [e1, e2] X.env = (false, eval e1 X.env) :: starEach [e2] X.env := by rfl) (hpl : (backTo pos3 (starEach [e2] X.env)).any (·.1) = false := by rfl) :
    PE X (.Call (.Name "list" p) [.Call (.Name "enumerate" p2) [.Call (.Name "zip" p3) [e1, e2] [] pos3] [] pos2] [] pos) (tListEnumZ X.K ta) := by
  refine ⟨fun pins s σ H Q I hq => ?_⟩
  refine wpAny_Call_Name_kw (ld_blt I hg hm hv ?_)
  refine PyProof.Rows.callWith_type1 ?_ hs rfl
  rw [hs]
  show wpAny _ _ (spliced ((false, eval (.Call (.Name "enumerate" p2) [.Call (.Name "zip" p3) [e1, e2] [] pos3] [] pos2) X.env) :: backTo pos [])) _ _ s
  refine Calls.spliced_cons ?_
  refine Call_ (ld_blt I hg2 hm2 boot_enumerate ?_)
  refine PyProof.Rows.callWith_type1 ?_ hs2 rfl
  rw [hs2]
  show wpAny _ _ (spliced ((false, eval (.Call (.Name "zip" p3) [e1, e2] [] pos3) X.env) :: backTo pos2 [])) _ _ s
  refine Calls.spliced_cons ?_
  refine Call_ (ld_blt I hg3 hm3 PyProof.Rows.boot_zip (PyProof.Rows.callWith_type1 (thn (he.run pos3 pins s σ H _ I hq) fun us s1 ⟨vs, H1, I1, r1, q1⟩ => ?_) hs3 hpl))
  obtain ⟨a, b, xs, ys, ex, sx, sy, hxy, q⟩ := q1
  subst ex
  cases r1 with
  | cons r rr =>
  cases rr with
  | cons r' rr =>
  cases rr
  cases r
  cases r'
  obtain ⟨its, rv, hz, la, srcA⟩ := gz_src I1 sx
  obtain ⟨jts, rw2, hz2, lb, srcB⟩ := gz_src I1 sy
  obtain ⟨oA, HA, BA, hA, DA⟩ := (src_of (prog := X.prog) (w := X.w) srcA).go
  obtain ⟨oB, HB, BB, hB, DB⟩ := (src_of (prog := X.prog) (w := X.w) srcB).go
  refine zip_begins2 BA BB hA hB fun h2 hz' hTI hTO g1 g2 hsz hk => ?_
  refine Calls.spliced_nil ?_
  refine gz_enum (s := { s1 with heap := h2 }) hz' fun h3 he' hsz3 hk3 => ?_
  refine Calls.spliced_nil ?_
  have hh := I1.ok.hd hc
  have z2 : h2.objs.size = s1.heap.objs.size + 5 := hsz
  have z3 : h3.objs.size = h2.objs.size + 1 := hsz3
  have k3 : ∀ b o, h2.get? b = some o → h3.get? b = some o := hk3
  obtain ⟨StA, dA, sA⟩ := DA X.A.in1.in1.in1.in1 s1.heap.objs.size hh (Nat.ne_of_lt la)
  obtain ⟨StB, dB, sB⟩ := DB X.A.in1.in1.in1.in1 (s1.heap.objs.size + 1) hh (Nat.ne_of_lt (Nat.lt_succ_of_lt lb))
  have en : jts.toArray.size = its.toArray.size := by
    have h1 := rv.length
    have h2 := rw2.length
    simp only [List.size_toArray]
    omega
  rw [en] at dB
  have Sp := zsep s1.heap.objs.size a b la lb
  have gS : s1.heap.objs.size + 5 < h3.objs.size := by rw [z3, z2]; exact Nat.lt_succ_self _
  have D := DrG.zip (S := h3.objs.size) (e := h2.objs.size) Sp dA dB (by rw [z3]; exact Nat.lt_succ_self _) (zlt4 _ _ z2) (zlt2 _ _ z2) (zlt3 _ _ z2) (zlt0 _ _ z2) (zlt1 _ _ z2) (fun c hc => zltA _ _ _ _ z2 la hc) (fun c hc => zltB _ _ _ _ z2 lb hc)
  have kk : ∀ c o, s1.heap.get? c = some o → h3.get? c = some o := fun c o e => k3 c o (hk c o e)
  refine gz_call (s := { s1 with heap := h3 }) (by simpa [← rv.length] using hz) D he' ⟨Heap.get?_push_of_some _ (k3 _ _ hTI), sA _ (fun c o e => Heap.get?_push_of_some _ (kk c o e)) (Heap.get?_push_of_some _ (k3 _ _ g1)), sB _ (fun c o e => Heap.get?_push_of_some _ (kk c o e)) (Heap.get?_push_of_some _ (k3 _ _ g2)), .inl ⟨Heap.get?_push_of_some _ (k3 _ _ hz'), _, _, Heap.get?_push_of_some _ (k3 _ _ hTO)⟩⟩ fun h4 tk acc c qs z => ?_
  have lS : s1.heap.objs.size ≤ h3.objs.size := Nat.le_of_lt (Nat.lt_of_le_of_lt (Nat.le_add_right _ 5) gS)
  obtain ⟨H', k1, k2, k4, k5, J⟩ := enumz_laid (tk := tk) (S := h3.objs.size) I1 lS hz rv rw2 hxy (fun c o e => z.kp c o (Nat.ne_of_lt (Nat.lt_of_lt_of_le (Heap.lt_size e) lS)) (Nat.ne_of_lt (zltE _ _ _ z2 (Heap.lt_size e))) (zno _ _ (Heap.lt_size e)) (kk c o e)) z.sh z.ln z.gr z.ac
  exact ⟨.ref h3.objs.size, H', J, rfl, q H' _ qs k1 k2 k4 k5⟩
end
end GX

set_option Elab.async false
set_option linter.all false
set_option maxRecDepth 100000
set_option maxHeartbeats 4000000
namespace GX
open PySem PySem.Spec PyProof.Rows L2
section
variable {X : Cx}
/-- max(t), t a tuple of whole numbers: one of them -/
def rMaxT (K : PySem.W.Frag) : List V → Hp → VK → Prop := fun vs H Q => ∃ (a : Addr) (ns : List Int), vs = [V.ref a] ∧ SqT K H a (ns.map V.int) ∧ 0 < ns.length ∧ ∀ m, m ∈ ns → Q (.int m) H
theorem ints_read {h : Heap} : ∀ {ns : List Int} {its : List Value}, Vals (ns.map V.int) its → ∃ as, ReadsAll h its (ns.map PyData.int) as
  | [], _, .nil => ⟨_, .nil⟩
  | n :: ns, _, .cons r t => by
    obtain ⟨k, rfl⟩ := r
    obtain ⟨as, h⟩ := ints_read t
    exact ⟨_, .cons (.int n k) h⟩
theorem cr_maxT (hc : X.calm = true) (hu : X.A.units + 64 < cLine) : CallR X (.builtin "max") (rMaxT X.K) := by
  intro pins s σ H vs us Q I r h
  obtain ⟨a, ns, rfl, hs, hne, q⟩ := h
  obtain ⟨its, rv, p, hz⟩ := I.tuple hs
  rw [Vals.ref1 r]
  cases ns with
  | nil => cases hne
  | cons n ns =>
    obtain ⟨as, hr⟩ := ints_read (h := s.heap) rv
    refine PySem.W.max_tuple_data (x := .int n) (xs := ns.map PyData.int) (I.ok.hd hc) (show s.heap.IsTuple a its.toArray from p) hr ⟨fun x hx y hy => ?_, fun x hx => ?_⟩ ?_ fun i v h' tk bs hv _ hk => ?_
    · have hx : x ∈ (n :: ns).map PyData.int := hx
      have hy : y ∈ (n :: ns).map PyData.int := hy
      obtain ⟨a1, _, rfl⟩ := List.mem_map.mp hx
      obtain ⟨a2, _, rfl⟩ := List.mem_map.mp hy
      rfl
    · have hx : x ∈ (n :: ns).map PyData.int := hx
      obtain ⟨a1, _, rfl⟩ := List.mem_map.mp hx
      exact fun z => nomatch z
    · have e : ∀ l : List Int, PyData.depthAll (l.map PyData.int) = 0 := fun l => by
        induction l with
        | nil => rfl
        | cons i r ih => show max 0 (PyData.depthAll (r.map PyData.int)) = 0; rw [ih]; rfl
      have e1 : PyData.depthAll (PyData.int n :: ns.map PyData.int) = 0 := e (n :: ns)
      rw [e1]
      omega
    · have hv' : its[i]? = some v := by simpa using hv
      obtain ⟨m, hm, hr⟩ : ∃ m, (n :: ns)[i]? = some m ∧ RelV (.int m) v := by
        have hl := rv.length
        rw [List.length_map] at hl
        have hi : i < (n :: ns).length := by rw [hl]; exact (List.getElem?_eq_some_iff.mp hv').1
        obtain ⟨u, h1, h2⟩ := rv.get (i := i) (x := .int (n :: ns)[i]) (by rw [List.getElem?_map, List.getElem?_eq_getElem hi]; rfl)
        rw [hv'] at h1
        cases h1
        exact ⟨_, List.getElem?_eq_getElem hi, h2⟩
      exact ⟨.int m, H, I.kept hk, hr, q m (List.mem_of_getElem? hm)⟩
end
end GX

set_option Elab.async false
set_option linter.all false
set_option maxRecDepth 100000
set_option maxHeartbeats 4000000
namespace GX
open PySem PySem.Spec PyProof.Rows L2
section
variable {X : Cx}
/-- max(l, default=d), l a list of whole numbers -/
def rMaxDef (K : PySem.W.Frag) : List V → List V → Hp → VK → Prop := fun xs zs H Q => ∃ (a : Addr) (ns : List Int) (d : V), xs = [V.ref a] ∧ zs = [d] ∧ SqL K H a (ns.map V.int) ∧ (ns = [] → Q d H) ∧ ∀ n ms, ns = n :: ms → Q (.int (ms.foldl max n)) H
def rMinDef (K : PySem.W.Frag) : List V → List V → Hp → VK → Prop := fun xs zs H Q => ∃ (a : Addr) (ns : List Int) (d : V), xs = [V.ref a] ∧ zs = [d] ∧ SqL K H a (ns.map V.int) ∧ (ns = [] → Q d H) ∧ ∀ n ms, ns = n :: ms → Q (.int (ms.foldl min n)) H
theorem ints_alike (ns : List Int) : PySem.W.AlikeAll (ns.map PyData.int) := ⟨fun x hx y hy => by
    obtain ⟨a1, _, rfl⟩ := List.mem_map.mp hx
    obtain ⟨a2, _, rfl⟩ := List.mem_map.mp hy
    rfl, fun x hx => by
    obtain ⟨a1, _, rfl⟩ := List.mem_map.mp hx
    exact fun z => nomatch z⟩
theorem ints_flat (l : List Int) : PyData.depthAll (l.map PyData.int) = 0 := by
  induction l with
  | nil => rfl
  | cons i r ih => show max 0 (PyData.depthAll (r.map PyData.int)) = 0; rw [ih]; rfl
theorem cr_maxDef (hc : X.calm = true) (hu : X.A.units + 64 < cLine) : CallRK X (.builtin "max") [Str.ofString "default"] (rMaxDef X.K) := by
  intro pins s σ H vs zs us ws Q I r rz h
  obtain ⟨a, ns, d, rfl, rfl, hs, h0, h1⟩ := h
  obtain ⟨its, rv, p, hz⟩ := I.list hs
  rw [Vals.ref1 r]
  obtain ⟨u1, rfl, rd⟩ := vals1 rz
  obtain ⟨as, hr⟩ := ints_read (h := s.heap) rv
  refine PySem.W.max_list_default (xs := ns.map PyData.int) (I.ok.hd hc) p.isList hr (ints_alike ns) (by rw [ints_flat]; omega) (fun e h' tk hk => ?_) fun y ys i v h' tk bs e hv hrd hk => ?_
  · have e : ns = [] := List.map_eq_nil_iff.mp e
    exact ⟨d, H, I.kept hk, rd, h0 e⟩
  · obtain ⟨n, ms, rfl⟩ : ∃ n ms, ns = n :: ms := by
      cases ns with
      | nil => cases e
      | cons n ms => exact ⟨n, ms, rfl⟩
    injection e with e1 e2
    rw [← e1, ← e2, PySem.W.maxD_ints] at hrd
    cases hrd
    exact ⟨.int (ms.foldl max n), H, I.kept hk, ⟨_, rfl⟩, h1 n ms rfl⟩
theorem cr_minDef (hc : X.calm = true) (hu : X.A.units + 64 < cLine) : CallRK X (.builtin "min") [Str.ofString "default"] (rMinDef X.K) := by
  intro pins s σ H vs zs us ws Q I r rz h
  obtain ⟨a, ns, d, rfl, rfl, hs, h0, h1⟩ := h
  obtain ⟨its, rv, p, hz⟩ := I.list hs
  rw [Vals.ref1 r]
  obtain ⟨u1, rfl, rd⟩ := vals1 rz
  obtain ⟨as, hr⟩ := ints_read (h := s.heap) rv
  refine PySem.W.min_list_default (xs := ns.map PyData.int) (I.ok.hd hc) p.isList hr (ints_alike ns) (by rw [ints_flat]; omega) (fun e h' tk hk => ?_) fun y ys i v h' tk bs e hv hrd hk => ?_
  · have e : ns = [] := List.map_eq_nil_iff.mp e
    exact ⟨d, H, I.kept hk, rd, h0 e⟩
  · obtain ⟨n, ms, rfl⟩ : ∃ n ms, ns = n :: ms := by
      cases ns with
      | nil => cases e
      | cons n ms => exact ⟨n, ms, rfl⟩
    injection e with e1 e2
    rw [← e1, ← e2, PySem.W.minD_ints] at hrd
    cases hrd
    exact ⟨.int (ms.foldl min n), H, I.kept hk, ⟨_, rfl⟩, h1 n ms rfl⟩
end
end GX

set_option Elab.async false
set_option linter.all false
set_option maxRecDepth 100000
set_option maxHeartbeats 4000000
namespace GX
open PySem PySem.Spec PyProof.Rows L2
theorem lt_pair {f1 f2 : Int} (d1 d2 : PyData) (h : f1 ≠ f2) : PySem.W.dataLt (.tuple [.int f1, d1]) (.tuple [.int f2, d2]) = decide (f1 < f2) := by
  have e : ∀ (f : Int) (d : PyData), PySem.W.keyToks (.tuple [.int f, d]) = [Sum.inl 1] ++ (Sum.inl f :: PySem.W.keyToksAll [d]) := fun f d => by
    rw [PySem.W.keyToks, PySem.W.toks_all_cons, PySem.W.keyToks]; rfl
  unfold PySem.W.dataLt
  rw [e, e, PySem.W.lex_pre, PySem.W.lex_atom (fun z => h (by injection z))]
  have := PySem.W.dataLt_int f1 f2
  unfold PySem.W.dataLt at this
  rw [PySem.W.keyToks, PySem.W.keyToks] at this
  exact this
section
variable {X : Cx}
/-- max([(f1, x1), (f2, x2)]) where f1 is not f2 -/
def rMaxPair (K : PySem.W.Frag) : List V → Hp → VK → Prop := fun vs H Q => ∃ (a T1 T2 : Addr) (f1 f2 : Int) (x1 x2 : V) (d1 d2 : PyData), vs = [V.ref a] ∧ SqL K H a [.ref T1, .ref T2] ∧ SqT K H T1 [.int f1, x1] ∧ SqT K H T2 [.int f2, x2] ∧ Dp K H x1 d1 ∧ Dp K H x2 d2 ∧
  PySem.W.alike d1 d2 = true ∧ PySem.W.alike d2 d1 = true ∧ PySem.W.alike d1 d1 = true ∧ PySem.W.alike d2 d2 = true ∧ PyData.depthAll [.tuple [.int f1, d1], .tuple [.int f2, d2]] < 60 ∧ f1 ≠ f2 ∧ Q (.ref (if f1 < f2 then T2 else T1)) H
theorem cr_maxPair (hc : X.calm = true) (hu : X.A.units + 64 < cLine) : CallR X (.builtin "max") (rMaxPair X.K) := by
  intro pins s σ H vs us Q I r h
  obtain ⟨a, T1, T2, f1, f2, x1, x2, d1, d2, rfl, hs, h1, h2, p1, p2, a12, a21, a11, a22, hd, hne, q⟩ := h
  obtain ⟨its, rv, p, hz⟩ := I.list hs
  rw [Vals.ref1 r]
  have dp : DpAll X.K H [.ref T1, .ref T2] [.tuple [.int f1, d1], .tuple [.int f2, d2]] := .cons (.tup h1 (.cons (.int f1) (.cons p1 .nil))) (.cons (.tup h2 (.cons (.int f2) (.cons p2 .nil))) .nil)
  obtain ⟨as, hr⟩ := Dp.readsAll I _ _ _ dp rv
  obtain ⟨i1, rv1, q1, _⟩ := I.tuple h1
  obtain ⟨i2, rv2, q2, _⟩ := I.tuple h2
  cases rv with
  | cons r1 rr =>
  cases rr with
  | cons r2 rr =>
  cases rr
  cases r1
  cases r2
  have al : ∀ {f g : Int} {d e : PyData}, PySem.W.alike d e = true → PySem.W.alike (.tuple [.int f, d]) (.tuple [.int g, e]) = true := fun {f g d e} h => by
    rw [PySem.W.alike, PySem.W.alikeAll, PySem.W.alike, PySem.W.alikeAll, h, PySem.W.alikeAll]; rfl
  refine PySem.W.max_list_data (x := .tuple [.int f1, d1]) (xs := [.tuple [.int f2, d2]]) (I.ok.hd hc) p.isList hr ⟨fun x hx y hy => ?_, fun x hx => ?_⟩ (by omega) fun i v h' tk bs hv hrd hk => ?_
  · simp only [List.mem_cons, List.not_mem_nil, or_false] at hx hy
    rcases hx with rfl | rfl <;> rcases hy with rfl | rfl
    · exact al a11
    · exact al a12
    · exact al a21
    · exact al a22
  · simp only [List.mem_cons, List.not_mem_nil, or_false] at hx
    rcases hx with rfl | rfl <;> exact fun z => nomatch z
  · have em : PySem.W.maxD (.tuple [.int f1, d1]) [.tuple [.int f2, d2]] = if f1 < f2 then .tuple [.int f2, d2] else .tuple [.int f1, d1] := by
      show (if PySem.W.dataLt _ _ = true then _ else _) = _
      rw [lt_pair d1 d2 hne]
      by_cases c : f1 < f2
      · rw [if_pos c, if_pos (decide_eq_true c)]
      · rw [if_neg c, if_neg (fun z => c (of_decide_eq_true z))]
    rw [em] at hrd
    -- what reads as (f, ..) begins with f
    have first : ∀ {T : Addr} {f g : Int} {x : V} {d : PyData} {ii : List Value}, Vals [.int f, x] ii → (∃ o, s.heap.get? T = some o ∧ o.cls = .type "tuple" ∧ ∃ n, o.data = .seq ii.toArray n) → Reads h' (.ref T) (.tuple [.int g, d]) bs → f = g := by
      intro T f g x d ii rv ⟨o, ho, _, n, hd⟩ hrd
      cases hrd with
      | tuple g1 g2 g3 g4 =>
        have := hk _ _ ho
        rw [g1] at this
        cases this
        rw [hd] at g3
        cases g3
        cases rv with
        | cons r _ =>
          obtain ⟨t, rfl⟩ := r
          cases g4 with
          | cons g5 _ =>
            cases g5
            rfl
    obtain ⟨o1, ho1, hc1, n1, hd1⟩ := q1
    obtain ⟨o2, ho2, hc2, n2, hd2⟩ := q2
    have fin : v = .ref (if f1 < f2 then T2 else T1) := by
      match i, hv with
      | 0, hv =>
        obtain rfl : Value.ref T1 = v := by simpa using hv
        by_cases c : f1 < f2
        · rw [if_pos c] at hrd
          exact absurd (first rv1 ⟨o1, ho1, hc1, n1, hd1⟩ hrd) hne
        · rw [if_neg c]
      | 1, hv =>
        obtain rfl : Value.ref T2 = v := by simpa using hv
        by_cases c : f1 < f2
        · rw [if_pos c]
        · rw [if_neg c] at hrd
          exact absurd (first rv2 ⟨o2, ho2, hc2, n2, hd2⟩ hrd).symm hne
      | i + 2, hv => simp at hv
    rw [fin]
    exact ⟨.ref (if f1 < f2 then T2 else T1), H, I.kept hk, rfl, q⟩
end
end GX

set_option Elab.async false
set_option linter.all false
set_option maxRecDepth 100000
set_option maxHeartbeats 4000000
namespace L2
open PySem PySem.Spec PyProof.Rows
/-- C(), C's own __init__ keeping sp, no field set -/
def tMkO0 (C : Addr) (sp : Sp) : St → Hp → XK → Prop := fun σ H Q => ∀ a, H a = none → sp [.ref a] (upd H a (exo a C none))
  (fun v H2 => v = .non ∧ H2 a = some (exo a C none) ∧ Q (.ref C) none (del H2 a)) (fun _ _ _ => False)
section
variable {X : Cx} {p pos : Pos}
theorem mk_endN0 {pins : List (Addr × Obj)} {σ : St} {H1 H2 : Hp} {hp hp2 h2 : Heap} {g1 g2 : Array GenState} {d1 d2 : Drawn} {t1 t2 : Nat} {os1 os2 : OsState} {a C : Addr} (I1 : Inv X pins σ H1 ⟨hp, g1, d1, t1, os1⟩)
    (ha : hp.objs.size ≤ a) (k : ∀ b o, hp.get? b = some o → hp2.get? b = some o) (un : Un (frs X.stack) [] (upd H1 a (exo a C none)) H2 hp2 h2) (hok : HOk X.prog X.w H2 h2) (ho : os2 = os1) (hb : AllBare g2)
    (ea : H2 a = some (exo a C none)) :
    ∃ (t0 : Addr) (G : Heap), Inv X pins σ (del H2 a) ⟨G, g2, d2, t2, os2⟩ ∧ (∀ b o, G.get? b = some o → h2.get? b = some o) ∧ G.get? a = none ∧
      h2.get? a = some ({ cls := .ref C, dict := none, data := .fields #[.ref t0, .none, .none, .none, .bool false, .none] } : Obj) ∧ (del H2 a) a = none := by
  obtain ⟨t0, hoe⟩ := exo_at hok ea
  have hn : H1 a = none := I1.hok.fresh ha
  obtain ⟨G, g1', g2'⟩ := restrict h2 fun b => decide (b ≠ a)
  have gk : ∀ b, b ≠ a → G.get? b = h2.get? b := fun b hb => g1' b (decide_eq_true hb)
  have ge : G.get? a = none := g2' a (by simp)
  have nha : ∀ {b : Addr} {o : Obj}, hp.get? b = some o → b ≠ a := fun {b o} z => Nat.ne_of_lt (Nat.lt_of_lt_of_le (Heap.lt_size z) ha)
  have up : ∀ {b : Addr}, b ≠ a → H1 b = none → upd H1 a (exo a C none) b = none := fun {b} hb n => by rw [upd_ne hb]; exact n
  have U : Un (frs X.stack) [] H1 (del H2 a) hp G := {
    keep := fun b o z n hf hx => by
      rw [gk b (nha z)]
      exact un.keep b o (k b o z) (up (nha z) n) hf hx
    slot := fun b o z n hf hx => by
      rw [gk b (nha z)]
      exact un.slot b o (k b o z) (up (nha z) n) hf hx
    free := fun b o z n hx => by
      rw [del_ne (nha z)]
      exact un.free b o (k b o z) (up (nha z) n) hx
    there := fun b o z hx => by
      rw [gk b (nha z)]
      exact un.there b o (k b o z) hx
    tups := fun b xs z => by
      rw [del_ne (ne_of_none z hn)]
      exact un.tups b xs (by rw [upd_ne (ne_of_none z hn)]; exact z)
    frzs := fun b o v z => by
      rw [del_ne (ne_of_none z hn)]
      exact un.frzs b o v (by rw [upd_ne (ne_of_none z hn)]; exact z)
    tbls := fun b ps z => by
      rw [del_ne (ne_of_none z hn)]
      exact un.tbls b ps (by rw [upd_ne (ne_of_none z hn)]; exact z) }
  have hok3 : HOk X.prog X.w (del H2 a) G := fun b o z => by
    have hba : b ≠ a := fun e => by
      rw [e, del_same] at z
      cases z
    rw [del_ne hba] at z
    have noa : ∀ {c : Addr}, H2 c = some (.own b) → c ≠ a := fun {c} hc => at_ne ea hc exo_own
    exact (hok b o z).stay (fun c v hc y => by
        have hca : c ≠ a := by
          rcases hc with hc | hc
          · rw [hc]
            exact hba
          · exact noa hc
        rw [gk c hca]
        exact y)
      (fun c hc => by rw [del_ne (noa hc)]; exact hc) (fun c xs hc => by rw [del_ne (at_ne ea hc exo_tup)]; exact hc)
  have J : Inv X pins σ (del H2 a) ⟨G, g2, d2, t2, os2⟩ := I1.call' (ch := []) ho U hok3 hb (fun b z => absurd z (by simp))
  refine ⟨t0, G, J, fun b o z => ?_, ge, hoe, del_same⟩
  by_cases hba : b = a
  · rw [hba, ge] at z
    cases z
  · exact (gk b hba).symm.trans z
theorem pmk_oex0 {CX : CXT} {x : Str} {C fI : Addr} {k : Nat} {fd : FuncData} {ps : List Str} {sp : Sp} (T : OexC X.K C) (iC : PySem.W.findIn X.K (.ref C) "__init__" = some (some (.ref fI))) (tI : PySem.W.typeIn X.K (.ref fI) = some (.type "function"))
    (F1 : FnOk X.prog X.w X.K X.mg X.base CX k fI fd ps sp) (hr : Room (k + 1) X.A) (hb : Binds X.K fd ps []) (hx : Passes CX X (fun _ _ _ => False)) (hg : Gl X x) (hm : X.mg x = some (.ref C)) (hdb : (x == ("__debug__" : Str)) = false := by decide) :
    PMk X (.Call (.Name x p) [] [] pos) (tMkO0 C sp) := by
  intro pins s σ H1 Q I1 h
  obtain ⟨nm, q, N, bs, bm, sn, sub, ab, col, dd, k0, k1, k2, k3, k5, hC, hbm⟩ := T.cls
  refine wpAny_Call_Name_kw (ld_glob I1 hg hm ?_ hdb)
  refine PySem.W.callWith_K0 I1.kIn T.kC ?_
  show wpAny _ _ (call (.ref C) []) _ _ _
  obtain ⟨hp, g, dr, tk, os⟩ := s
  have hsz : hp.objs.size ≤ hp.objs.size + 1 := Nat.le_succ _
  have hn : H1 (hp.objs.size + 1) = none := I1.hok.fresh hsz
  have hq := h (hp.objs.size + 1) hn
  have kk : ∀ b o, hp.get? b = some o → ((hp.push (PySem.W.kdv_tup [])).push (PySem.HandSPX.excO C hp.objs.size)).get? b = some o := fun b o e => Heap.get?_push_of_some _ (Heap.get?_push_of_some _ e)
  have hget : ((hp.push (PySem.W.kdv_tup [])).push (PySem.HandSPX.excO C hp.objs.size)).get? (hp.objs.size + 1) = some (PySem.HandSPX.excO C hp.objs.size) := by heap_get
  have I2 : Inv X pins σ (upd H1 (hp.objs.size + 1) (exo (hp.objs.size + 1) C none)) ⟨(hp.push (PySem.W.kdv_tup [])).push (PySem.HandSPX.excO C hp.objs.size), g, dr, tk, os⟩ :=
    I1.laid (t' := tk) (a := hp.objs.size + 1) (o := exo (hp.objs.size + 1) C none) (h' := (hp.push (PySem.W.kdv_tup [])).push (PySem.HandSPX.excO C hp.objs.size)) kk hsz (exo_ok hget)
  have r2 : Vals [V.ref (hp.objs.size + 1)] [Value.ref (hp.objs.size + 1)] := .cons rfl .nil
  have hl : ([Value.ref (hp.objs.size + 1)] ++ []).length = ps.length := by
    have e := r2.length
    rw [F1.len _ _ _ _ hq] at e
    rw [List.append_nil]
    exact e.symm
  refine wpAny_call (PySem.HandSPX.call_own F.excBase_ValueError (fun Y => PySem.HandSPX.refsVE_contains Y bm hbm) (I1.kIn _ _ hC) (PySem.W.looks_findIn I1.kIn iC) (fun self => PySem.W.bind_fn I1.kIn self tI) (Nat.zero_le _)
    (codeAny_mono (F1.run _ X.stack _ _ ⟨[Value.ref (hp.objs.size + 1)], []⟩ ([Value.ref (hp.objs.size + 1)] ++ []) _ _ (fun _ _ _ => False) (hr.make C [] []) (I2.env0.make C [] []) (hb _ [Value.ref (hp.objs.size + 1)] I2.kIn hl) r2 hq) fun r s' hq' => ?_))
  cases r with
  | error er => exact hx pins σ _ _ er s' I2 hq'
  | ok fl =>
    cases fl with
    | ret u =>
      obtain ⟨v, H2, os2, bare2, un2, hok2, rv, ev, ea, q2⟩ := hq'
      subst ev
      obtain ⟨h2, g2, d2, t2, os'⟩ := s'
      obtain ⟨t0, G, J, kG, ge, hoe, na⟩ := mk_endN0 (d2 := d2) (t2 := t2) I1 hsz kk un2 hok2 os2 bare2 ea
      exact ⟨rv, _, _, _, ⟨G, g2, d2, t2, os'⟩, _, .ref C, none, rfl, J, kG, ge, hoe, ⟨rfl, rfl⟩, rfl, rfl, na, rfl, bare2, raises_own T.exC T.tyC, q2⟩
    | next => exact False.elim hq'
    | brk => exact False.elim hq'
    | cont => exact False.elim hq'
end
end L2

set_option Elab.async false
set_option linter.all false
set_option maxRecDepth 100000
set_option maxHeartbeats 4000000
/-! sets of keys (whole numbers, texts) whose members can be walked; sorted of texts, however many -/
namespace SX
open PySem PySem.Spec PyProof.Rows L2
instance memKey (k : L2.Key) (ks : List L2.Key) : Decidable (k ∈ ks) := @List.instDecidableMemOfLawfulBEq _ instBEqOfDecidableEq inferInstance k ks
/-- an entry's key -/
def kx (e : Int × Value) : L2.Key := match e.2 with | .int i _ => .inl i | .str x _ => .inr x | _ => .inl 0
def Fine (w : World) (e : Int × Value) : Prop := RelV (kV (kx e)) e.2 ∧ e.1 = keyH w (kx e)
theorem kx_of {u : Value} {k : L2.Key} (r : RelV (kV k) u) (n : Int) : kx (n, u) = k := by
  cases k with
  | inl i => obtain ⟨t, e⟩ := (show ∃ t, u = Value.int i t from r); subst e; rfl
  | inr x => obtain ⟨t, e⟩ := (show ∃ t, u = Value.str x t from r); subst e; rfl
theorem is_iff {P : Program} {w : World} {e : Int × Value} (f : Fine w e) (k : L2.Key) : (mixKind P w).is k e.2 = true ↔ kx e = k :=
  ⟨fun h => (mixKind P w).inj e.2 _ _ (kV_is f.1) h, fun h => h ▸ kV_is f.1⟩
/-- the set at a has just the keys ks -/
def At (w : World) (h : Heap) (a : Addr) (ks : List L2.Key) : Prop :=
  ∃ o es ep t, (h.get? a = some o ∧ o.ExactSet ∧ o.data = .set es ep t) ∧ (∀ e ∈ es.toList, Fine w e) ∧ (es.toList.map kx).Perm ks ∧ ks.Nodup ∧
    (es.size < scanBound ∧ t.fits es.size = true) ∧ Ris t.place.toList ∧ (w.params.followText "set-order" = true ∨ t.led = true)
section
variable {P : Program} {w : World} {h h' : Heap} {a : Addr} {ks : List L2.Key}
theorem At.keep (R : At w h a ks) (k : ∀ o, h.get? a = some o → h'.get? a = some o) : At w h' a ks := by
  obtain ⟨o, es, ep, t, ⟨ho, hx, hd⟩, rest⟩ := R
  exact ⟨o, es, ep, t, ⟨k o ho, hx, hd⟩, rest⟩
theorem At.perm {js : List L2.Key} (R : At w h a ks) (p : ks.Perm js) : At w h a js := by
  obtain ⟨o, es, ep, t, q, g, m, nd, rest⟩ := R
  exact ⟨o, es, ep, t, q, g, m.trans p, p.nodup_iff.mp nd, rest⟩
theorem fine_elems {l : List (Int × Value)} (g : ∀ e ∈ l, Fine w e) : ElemsOf (mixKind P w) l := fun e m => ⟨⟨kx e, kV_is (g e m).1, (g e m).2⟩, key_scan (g e m).1⟩
theorem mem_keys {l : List (Int × Value)} (g : ∀ e ∈ l, Fine w e) (k : L2.Key) : k ∈ l.map kx ↔ ∃ e ∈ l, (mixKind P w).is k e.2 = true := by
  constructor
  · intro q
    obtain ⟨e, m, z⟩ := List.mem_map.mp q
    exact ⟨e, m, (is_iff (g e m) k).mpr z⟩
  · rintro ⟨e, m, z⟩
    exact List.mem_map.mpr ⟨e, m, (is_iff (g e m) k).mp z⟩
theorem At.setOf (R : At w h a ks) : h.SetOf (mixKind P w) a (fun k => decide (k ∈ ks)) ks.length := by
  obtain ⟨o, es, ep, t, ⟨ho, hx, hd⟩, g, m, nd, ⟨hb, hf⟩, -⟩ := R
  refine ⟨o, es, ep, t, ho, hx, hd, fine_elems g, fun k => ?_, hb, hf, ?_⟩
  · rw [decide_eq_true_iff, ← m.mem_iff]
    exact mem_keys g k
  · have z := m.length_eq
    rw [List.length_map, Array.length_toList] at z
    exact z
theorem At.new (w : World) (h : Heap) : At w (h.push { cls := .type "set", dict := none, data := .set #[] 0 (.fresh 0 0 (!w.params.followText "set-order")) }) h.objs.size [] := by
  refine ⟨_, #[], 0, _, ⟨Heap.get?_push_size _ rfl, ⟨rfl, rfl, rfl⟩, rfl⟩, fun e m => absurd m (by simp), List.Perm.nil, List.nodup_nil, ⟨by decide, by rfl⟩, List.Pairwise.nil, ?_⟩
  cases q : w.params.followText "set-order" with
  | true => exact .inl rfl
  | false => exact .inr rfl
theorem put_at {o : Obj} {es es' : Array (Int × Value)} {ep : Nat} {t t' : SetTable} (q : h.get? a = some o ∧ o.ExactSet ∧ o.data = .set es ep t) :
    ∃ o', (h.update a (Obj.putSet es' t')).get? a = some o' ∧ o'.ExactSet ∧ o'.data = .set es' (ep + 1) t' := by
  obtain ⟨q1, q2, q3⟩ := q
  have e : Obj.putSet es' t' o = { o with data := .set es' (ep + 1) t' } := putSet_of es' t' q3
  refine ⟨Obj.putSet es' t' o, Heap.get?_update_self (Obj.putSet es' t') q1 (by rw [e]; rfl), ?_, by rw [e]⟩
  rw [e]; exact q2
end
section
variable {P : Program} {w : World} {A : Around} {E : Value → Shared → Prop} {s : Shared} {a : Addr} {ks : List L2.Key}
/-- what stands behind the new entry's laying -/
theorem tail_ok {g : Bool → Sem Unit} (hg : ∀ (b : Bool) (s1 : Shared) (Q1 : Unit → Shared → Prop), Q1 () s1 → wpAny (model P w) A (g b) Q1 E s1)
    {o : Obj} {es es1 : Array (Int × Value)} {ep : Nat} {t t1 : SetTable} (q : s.heap.get? a = some o ∧ o.ExactSet ∧ o.data = .set es ep t)
    (f1 : ∀ e ∈ es1.toList, Fine w e) (m1 : (es1.toList.map kx).Perm ks) (nd : ks.Nodup) (b1 : es1.size < scanBound) (t1f : t1.fits es1.size = true) (r1 : Ris t1.place.toList) (l1 : w.params.followText "set-order" = true ∨ t1.led = true)
    {wasDummy : Bool} {R : Option Bool → Shared → Prop} (hR : ∀ h1, Heap.SameBut a s.heap h1 → At w h1 a ks → R (some true) { s with heap := h1 }) :
    wpAny (model P w) A (do
      storeSet a es1 t1
      if (!wasDummy && t1.tooFull) = true then do
        g (relayAll t1 es1 (SetTable.grown es1.size)).2.2
        storeSet a (relayAll t1 es1 (SetTable.grown es1.size)).1 (relayAll t1 es1 (SetTable.grown es1.size)).2.1
        pure (some true)
      else pure (some true)) R E s := by
  refine wpAny_bind (wpAny_storeSet_of q.1 q.2.2 ?_ (fits_of_scanBound b1))
  obtain ⟨o1, q1⟩ := put_at (es' := es1) (t' := t1) q
  have same := Heap.SameBut.update s.heap a (Obj.putSet es1 t1)
  by_cases full : (!wasDummy && t1.tooFull) = true
  · rw [if_pos full]
    obtain ⟨z1, z2, z3, z4⟩ : ((relayAll t1 es1 (SetTable.grown es1.size)).1.toList.Perm es1.toList) ∧ ((relayAll t1 es1 (SetTable.grown es1.size)).2.1.fits (relayAll t1 es1 (SetTable.grown es1.size)).1.size = true) ∧
        Ris (relayAll t1 es1 (SetTable.grown es1.size)).2.1.place.toList ∧ (relayAll t1 es1 (SetTable.grown es1.size)).2.1.led = t1.led := ⟨relayAll_perm .., relayAll_fits .., relayAll_ris .., relayAll_led ..⟩
    generalize relayAll t1 es1 (SetTable.grown es1.size) = Y at z1 z2 z3 z4 ⊢
    have sz : Y.1.size = es1.size := by have z := z1.length_eq; rwa [Array.length_toList, Array.length_toList] at z
    have b2 : Y.1.size < scanBound := sz ▸ b1
    refine wpAny_bind (hg _ _ _ (wpAny_bind (wpAny_storeSet_of q1.1 q1.2.2 ?_ (fits_of_scanBound b2))))
    obtain ⟨o2, q2⟩ := put_at (es' := Y.1) (t' := Y.2.1) q1
    refine wpAny_pure (hR _ (same.trans (Heap.SameBut.update _ a _)) ⟨o2, Y.1, _, Y.2.1, q2, fun e m => f1 e (z1.mem_iff.mp m), (z1.map kx).trans m1, nd, ⟨b2, z2⟩, z3, ?_⟩)
    exact l1.imp id fun z => z4.trans z
  · rw [if_neg full]
    exact wpAny_pure (hR _ same ⟨o1, es1, _, t1, q1, f1, m1, nd, ⟨b1, t1f⟩, r1, l1⟩)
theorem gave_ok (b : Bool) (s1 : Shared) (Q1 : Unit → Shared → Prop) (q : Q1 () s1) : wpAny (model P w) A (match b with | true => rule "set.scan.the-table-gave-way" | false => pure ()) Q1 E s1 := by
  cases b with
  | true => exact wpAny_rule q
  | false => exact wpAny_pure q
theorem add_hashed {k : L2.Key} {x : Value} (rx : RelV (kV k) x) {Q : Bool → Shared → Prop} (R : At w s.heap a ks) (room : ks.length + 1 < scanBound)
    (hQ : ∀ h1 b, Heap.SameBut a s.heap h1 → At w h1 a (if k ∈ ks then ks else k :: ks) → Q b { s with heap := h1 }) :
    wpAny (model P w) A (setAddHashed a x ((mixKind P w).hash k)) Q E s := by
  obtain ⟨o, es, ep, t, q, g, m, nd, ⟨hb, hf⟩, hr, hl⟩ := id R
  have isx : (mixKind P w).is k x = true := kV_is rx
  have sc : x.scannable = true := key_scan rx
  have els : ElemsOf (mixKind P w) es.toList := fine_elems g
  have len : es.size = ks.length := by have z := m.length_eq; rwa [List.length_map, Array.length_toList] at z
  unfold setAddHashed setAddHashedIn
  refine wpAny_holding (wpAny_bind (wpAny_setState_of q.1 q.2.2 hf ?_))
  show wpAny _ _ (if byScan x es = true then _ else _) _ _ _
  rw [if_pos (byScan_of sc hb els)]
  unfold setAddByScan
  refine wpAny_bind (wpAny_bind (wpAny_rule (wpAny_bind (wpAny_setScan_of isx q.1 q.2.2 hf els ?_))))
  cases fi : List.findIdx? (fun e => (mixKind P w).is k e.2) es.toList with
  | some j =>
    obtain ⟨hj, pj, -⟩ := List.findIdx?_eq_some_iff_getElem.mp fi
    have inn : k ∈ ks := m.mem_iff.mp ((mem_keys (P := P) g k).mpr ⟨_, List.getElem_mem hj, pj⟩)
    refine wpAny_pure (wpAny_pure ?_)
    refine hQ s.heap false (Heap.SameBut.refl a s.heap) ?_
    rw [if_pos inn]; exact R
  | none =>
    have out : k ∉ ks := fun z => by
      obtain ⟨e, me, ie⟩ := (mem_keys (P := P) g k).mp (m.mem_iff.mpr z)
      exact Bool.noConfusion ((List.findIdx?_eq_none_iff.mp fi e me).symm.trans ie)
    have fin : ∀ h1, Heap.SameBut a s.heap h1 → At w h1 a (k :: ks) → Q true { s with heap := h1 } := fun h1 sb r => hQ h1 true sb (by rw [if_neg out]; exact r)
    dsimp only
    obtain ⟨y1, y2, y3, y4⟩ : ((layNew t es ((mixKind P w).hash k) x).1.toList.Perm (es.push ((mixKind P w).hash k, x)).toList) ∧ ((layNew t es ((mixKind P w).hash k) x).2.1.fits (layNew t es ((mixKind P w).hash k) x).1.size = true) ∧
        Ris (layNew t es ((mixKind P w).hash k) x).2.1.place.toList ∧ (layNew t es ((mixKind P w).hash k) x).2.1.led = t.led := ⟨layNew_perm .., layNew_fits .., layNew_ris _ _ _ _ hr, layNew_led ..⟩
    generalize layNew t es ((mixKind P w).hash k) x = Y at y1 y2 y3 y4 ⊢
    rw [Array.toList_push] at y1
    have pc : Y.1.toList.Perm (((mixKind P w).hash k, x) :: es.toList) := y1.trans (List.perm_append_singleton _ _)
    have kxx : kx ((mixKind P w).hash k, x) = k := kx_of rx _
    have f1 : ∀ e ∈ Y.1.toList, Fine w e := fun e me => by
      rcases List.mem_cons.mp (pc.mem_iff.mp me) with z | z
      · subst z
        exact ⟨by rw [kxx]; exact rx, by rw [kxx]; rfl⟩
      · exact g e z
    have m1 : (Y.1.toList.map kx).Perm (k :: ks) := by
      refine (pc.map kx).trans ?_
      rw [List.map_cons, kxx]
      exact m.cons k
    have nd1 : (k :: ks).Nodup := List.nodup_cons.mpr ⟨out, nd⟩
    have b1 : Y.1.size < scanBound := by
      have z := pc.length_eq
      rw [List.length_cons, Array.length_toList, Array.length_toList, len] at z
      rw [z]; exact room
    have l1 : w.params.followText "set-order" = true ∨ Y.2.1.led = true := hl.imp id fun z => y4.trans z
    refine wpAny_bind (gave_ok _ _ _ ?_)
    by_cases pl : Y.2.1.plain = true
    · rw [if_pos pl]
      refine wpAny_bind ?_
      rw [hashByValue_scannable 8 sc]
      refine wpAny_pure ?_
      refine tail_ok gave_ok q f1 m1 nd1 b1 ?_ ?_ ?_ fun h1 sb r => wpAny_pure (fin h1 sb r)
      · split
        · exact y2
        · exact SetTable.fits_plain_off y2
      · split <;> exact y3
      · split <;> exact l1
    · rw [if_neg pl]
      refine wpAny_bind (wpAny_pure ?_)
      simp only [↓reduceIte]
      exact tail_ok gave_ok q f1 m1 nd1 b1 y2 y3 l1 fun h1 sb r => wpAny_pure (fin h1 sb r)
theorem add_ok {k : L2.Key} {x : Value} (rx : RelV (kV k) x) {Q : Value → Shared → Prop} (R : At w s.heap a ks) (room : ks.length + 1 < scanBound)
    (hQ : ∀ h1, Heap.SameBut a s.heap h1 → At w h1 a (if k ∈ ks then ks else k :: ks) → Q .none { s with heap := h1, toks := s.toks + 1 }) :
    wpAny (model P w) A (call (.builtin "set.add") [.ref a, x]) Q E s := by
  refine wpAny_call_entry F.slot_set_add (R.setOf (P := P)).typeIs F.entry_set_add ?_ (F.args_set_add_2 _ _)
  unfold Builtin.«set.add» Builtin.Frozenset.oneOther
  simp only [List.isEmpty_nil, bind_assoc]
  unfold Builtin.Frozenset.addrOf setAdd
  refine wpAny_bind (wpAny_pure ?_)
  try dsimp only
  refine wpAny_bind (wpAny_pure ?_)
  try dsimp only
  refine wpAny_bind (wpAny_holding (wpAny_bind ((mixKind P w).pyHash (kV_is rx) (add_hashed (s := { s with toks := s.toks + 1 }) rx R room fun h1 b sb r => ?_))))
  show wpAny _ _ (ret Value.none) _ _ _
  exact wpAny_pure ⟨_, rfl, hQ h1 sb r⟩
end
end SX

set_option Elab.async false
set_option linter.all false
set_option maxRecDepth 100000
set_option maxHeartbeats 4000000
namespace SX
open PySem PySem.Spec PyProof.Rows L2 PpSet
/-- the set of the keys ks at a, as a tracked thing -/
def Own (w : World) (a : Addr) (ks : List L2.Key) : HO := .ext fun h => At w h a ks
theorem own_new {w : World} {P : Program} {H : Hp} {h : Heap} {a : Addr} {ks : List L2.Key} (R : At w h a ks) : ObjOk P w H h a (Own w a ks) :=
  ⟨R, let ⟨o, _, _, _, q, _⟩ := R; ⟨o, q.1⟩, fun _ _ p k => At.keep p k⟩
section
variable {X : Cx} {pins : List (Addr × Obj)} {σ : L2.St} {H : Hp} {s : Shared} {D : Addr} {ks : List L2.Key}
theorem own_get (I : Inv X pins σ H s) (e : H D = some (Own X.w D ks)) : At X.w s.heap D ks := (I.hok D _ e).1
theorem own_add {k : L2.Key} {x : Value} {E : Value → Shared → Prop} {Q : Value → Shared → Prop} (I : Inv X pins σ H s) (e : H D = some (Own X.w D ks)) (rx : RelV (kV k) x) (room : ks.length + 1 < scanBound)
    (h : ∀ s1, Inv X pins σ (upd H D (Own X.w D (if k ∈ ks then ks else k :: ks))) s1 → Q .none s1) : wpAny (model X.prog X.w) X.A (call (.builtin "set.add") [.ref D, x]) Q E s :=
  add_ok rx (own_get I e) room fun h1 sb r => h _ (I.write (x := D) (e := D) (t' := s.toks + 1) (by rw [e]; trivial) (.inl rfl) (fun b u n hu => (sb.2 b n).trans hu) (let ⟨o, _, _, _, q, _⟩ := r; ⟨o, q.1⟩) (own_new r))
end
section
variable {X : Cx}
/-- {elt for tg in it if ..}: a turn's body, W what holds at the i-th turn -/
def tSet (w : World) (wi : TI) (g : TG) (tt : TT) (te : TE) (vs : List Nat) : TE := fun σ H Q => wi σ H fun J H1 => ∀ D, H1 D = none → ∃ W : Nat → Nat → Hp → Prop, (∃ m, W 0 m (upd H1 D (Own w D []))) ∧
  ∀ i m H2, W i m H2 → (J.stop i H2 ∧ Q (.ref D) H2) ∨ (J.go i H2 ∧ ∃ Nx : Hp → Prop, (∀ H3, Nx H3 → ∃ m1, m1 < m ∧ W (i + 1) m1 H3) ∧
    ∀ x H3, J.yld i H2 x H3 → g x (wipe σ vs) H3 fun σ4 H4 => wipe σ4 vs = wipe σ vs ∧ tt σ4 H4 fun b H5 =>
      if b = true then te σ4 H5 fun y H6 => ∃ (k : L2.Key) (ks : List L2.Key), y = kV k ∧ H6 D = some (Own w D ks) ∧ ks.length + 1 < scanBound ∧ Nx (upd H6 D (Own w D (if k ∈ ks then ks else k :: ks))) else Nx H5)
theorem pe_set {elt tg iter : Expr} {ifs : List Expr} {scope : Scope} {own : List (PySem.Str × Nat)} {pos : Pos} {wi : TI} {g : TG} {tt : TT} {te : TE} (calm : X.calm = true) (nd : X.N.Nodup) (hi : PI X tg iter wi) (ok : BlkOk X.N X.env.scope scope own)
    (hg : ∀ (s0 : Shared) (H0 : Hp) (C : Addr) (cl : List (PySem.Str × Addr)) (fp : List Addr), PG (X.blk s0 H0 scope (compEnvC scope cl C X.env) fp) tg g)
    (ht : ∀ (s0 : Shared) (H0 : Hp) (C : Addr) (cl : List (PySem.Str × Addr)) (fp : List Addr), PTs (X.blk s0 H0 scope (compEnvC scope cl C X.env) fp) ifs tt)
    (he : ∀ (s0 : Shared) (H0 : Hp) (C : Addr) (cl : List (PySem.Str × Addr)) (fp : List Addr), PE (X.blk s0 H0 scope (compEnvC scope cl C X.env) fp) elt te)
    (hs : ∀ v, foldedSetIterable iter X.env v = pure v := by intro _; rfl) : PE X (.SetComp elt [⟨tg, iter, ifs, 0⟩] scope pos) (tSet X.w wi g tt te (own.map (·.2))) := by
  constructor
  intro pins s σ H Q I h
  rw [eval_SetComp]
  have free : ∀ y ∈ scope.names, y.2 = .free → ∃ c, X.env.cells.lookup y.1 = some c := fun y m e => (ok.free y m e).elim (fun z => I.ok.has _ (.inl z)) fun z => I.ok.has _ (.inr z)
  refine wpAny_comprehension_free (use := none) rfl hs (closure_ok free) ok.kind (fun y m e => by rw [ok.uniq y m, e]) (thn (hi.run pins s σ H _ I h) fun _ _ first => thn first fun _ s2 second => ?_)
  obtain ⟨it, fp, tn, J, H2, rfl, I2, T, st2, away, q⟩ := second
  refine newSet_ok (newEnv_comp ?_)
  generalize hD : s2.heap.objs.size = D
  obtain ⟨W, ⟨m0, w0⟩, turn⟩ := q D (I2.hok.fresh (Nat.le_of_eq hD))
  -- the new set
  generalize e3 : ({ s2 with heap := s2.heap.push { cls := .type "set", dict := none, data := .set #[] 0 (.fresh 0 0 (!X.w.params.followText "set-order")) } } : Shared) = s3
  have I3 : Inv X pins σ (upd H2 D (Own X.w D [])) s3 := by
    subst e3
    refine I2.laid (t' := s2.toks) (fun _ _ z => Heap.get?_push_of_some _ z) (Nat.le_of_eq hD) ?_
    subst hD
    exact own_new (At.new X.w _)
  have grown : ∀ b o, s2.heap.get? b = some o → s3.heap.get? b = some o := fun b o z => by subst e3; exact Heap.get?_push_of_some _ z
  have size3 : s3.heap.objs.size = s2.heap.objs.size + 1 := by subst e3; exact Heap.size_push _ _
  have away3 : ∀ b ∈ fp, FpOk X pins (upd H2 D (Own X.w D [])) b ∧ b < s3.heap.objs.size := fun b m => by
    obtain ⟨o, z, -⟩ := T.obj _ _ st2 b m
    have lt : b < s2.heap.objs.size := Heap.lt_size z
    refine ⟨⟨(upd_ne (by rw [← hD]; exact Nat.ne_of_lt lt)).trans (away b m).1, (away b m).2⟩, by rw [size3]; exact Nat.lt_succ_of_lt lt⟩
  have st3 : tn 0 s3.heap := T.keep _ _ _ st2 fun b _ o z => grown b o z
  have I4 := block_start I3 ok nd away3
  have pg := hg s3 (upd H2 D (Own X.w D [])) s3.heap.objs.size (cellsFrom (s3.heap.objs.size + 1) scope.names (cloFrom X.env.cells scope.names [])) fp
  have pt := ht s3 (upd H2 D (Own X.w D [])) s3.heap.objs.size (cellsFrom (s3.heap.objs.size + 1) scope.names (cloFrom X.env.cells scope.names [])) fp
  have pe := he s3 (upd H2 D (Own X.w D [])) s3.heap.objs.size (cellsFrom (s3.heap.objs.size + 1) scope.names (cloFrom X.env.cells scope.names [])) fp
  have bare3 : ∀ b ∈ fp, (upd H2 D (Own X.w D [])) b = none := fun b m => (away3 b m).1.1
  show codeAny _ _ (.compStart (.SetComp elt [⟨tg, iter, ifs, 0⟩] scope pos) 0 (.ref it) (.ref D) (compEnvC scope (cellsFrom (s3.heap.objs.size + 1) scope.names (cloFrom X.env.cells scope.names [])) s3.heap.objs.size X.env)) _ { s3 with heap := pushCells (s3.heap.push { cls := .type "dict", data := .dict #[] }) scope.names }
  generalize ec : compEnvC scope (cellsFrom (s3.heap.objs.size + 1) scope.names (cloFrom X.env.cells scope.names [])) s3.heap.objs.size X.env = ce at I4 pg pt pe ⊢
  have loc : ce.locals = s3.heap.objs.size := by subst ec; rfl
  generalize upd H2 D (Own X.w D []) = H3 at I3 I4 pg pt pe w0 bare3 away3
  generalize e4 : ({ s3 with heap := pushCells (s3.heap.push { cls := .type "dict", data := .dict #[] }) scope.names } : Shared) = s4 at I4 ⊢
  have st4 : tn 0 s4.heap := T.keep _ _ _ st3 fun b _ o z => by subst e4; exact pushCells_keeps _ _ _ _ (Heap.get?_push_of_some _ z)
  have apart : ∀ {σ1 : L2.St} {H1 : Hp} {s1 : Shared}, Inv (X.blk s3 H3 scope ce fp) [] σ1 H1 s1 → (∀ b ∈ fp, H1 b = none) → ∀ b ∈ fp, FpOk (X.blk s3 H3 scope ce fp) [] H1 b :=
    fun J1 n1 b m => ⟨n1 b m, (J1.ok.exf b m).1, J1.ok.exfs b m, .inl m, fun x c z => (J1.ok.exf b m).2 x c z, fun p hp => absurd (show p ∈ ([] : List (Addr × Obj)) ++ [] from hp) (by simp)⟩
  have loop := compLoopS_any (prog := X.prog) (w := X.w) (A := X.A) (R := compPost (model X.prog X.w) X.A X.xe none (EP X pins σ Q) (.ref D) s3.heap.objs.size) (s := s4) (env := ce) (elt := elt) (target := tg) (iter := iter) (ifs := ifs) (scope := scope) (pos := pos) (it := .ref it) (acc := .ref D)
    (fun n s1 => ∃ i H1, Inv (X.blk s3 H3 scope ce fp) [] (wipe σ (own.map (·.2))) H1 s1 ∧ tn i s1.heap ∧ (∀ b ∈ fp, H1 b = none) ∧ W i n H1) (by
      rintro n s5 ⟨i, H5, I5, st5, n5, w5⟩
      rcases turn i n H5 w5 with ⟨stop, qq⟩ | ⟨go, Nx, hNx, step⟩
      · refine thnF (T.done (X.blk s3 H3 scope ce fp) rfl rfl rfl calm i [] s5 _ H5 (fun _ _ => False) I5 (apart I5 n5) st5 stop) fun r s6 z => ?_
        obtain ⟨rfl, I6⟩ := z
        have I7 : Inv X pins σ H5 s6 := I3.call' (ch := fp) I6.os I6.base I6.hok I6.bare fun b m => let z := (away3 b m).1; ⟨z.2.2.2.1, z.2.1, z.2.2.2.2.1, z.2.2.2.2.2⟩
        have nC : H5 s3.heap.objs.size = none := loc ▸ (show H5 ce.locals = none from I6.free)
        obtain ⟨m, hn, -⟩ := I6.loc
        have hn1 : s6.heap.Ns s3.heap.objs.size m := loc ▸ (show s6.heap.Ns ce.locals m from hn)
        obtain ⟨f0, f1, f2, f3, f4, f5⟩ := I3.fpOk (Nat.le_refl _) nC
        exact ⟨m, hn1, fun h7 sb => ⟨.ref D, H5, I7.turned (t' := s6.toks) (fun b o hb z => (sb.2 b hb).trans z) f0 f1 f3 f4 f5, rfl, qq⟩⟩
      · refine thnF (T.item (X.blk s3 H3 scope ce fp) rfl rfl rfl calm i [] s5 _ H5 (fun _ _ => False) I5 (apart I5 n5) st5 go) fun r s6 z => ?_
        obtain ⟨u, rfl, h6⟩ := z
        refine thnF h6 fun _ s7 z => ?_
        obtain ⟨x, H7, I7, r7, y7, st7, n7⟩ := z
        refine thnF (pg.run _ s7 _ H7 x u _ (I7.pinned (apart I7 n7) (T.obj _ _ st7)) r7 (step x H7 y7)) fun _ s8 z => ?_
        obtain ⟨σ8, H8, I8, hw8, q8⟩ := z
        refine thnF (pt.run _ s8 σ8 H8 _ I8 q8) fun b s9 z => ?_
        obtain ⟨H9, I9, q9⟩ := z
        have fin : ∀ {s1 : Shared} {H1 : Hp}, Inv (X.blk s3 H3 scope ce fp) ([] ++ pinsAt fp s7.heap) σ8 H1 s1 → Nx H1 → ∃ m, m < n ∧ ∃ i H1, Inv (X.blk s3 H3 scope ce fp) [] (wipe σ (own.map (·.2))) H1 s1 ∧ tn i s1.heap ∧ (∀ b ∈ fp, H1 b = none) ∧ W i m H1 := by
          intro s1 H1 J1 nx
          obtain ⟨m1, hm, w1⟩ := hNx H1 nx
          have pinned : ∀ b ∈ fp, ∀ o, s7.heap.get? b = some o → s1.heap.get? b = some o ∧ H1 b = none := fun b m o z =>
            let y := J1.pin (b, o) (List.mem_append_right _ (List.mem_append_right _ (mem_pinsAt m z))); ⟨y.1, y.2.1⟩
          refine ⟨m1, hm, i + 1, H1, J1.unpinned.weak (by rw [← hw8, wipe_length]) (fun j v z => (wipe_some (hw8 ▸ z)).1), T.keep _ _ _ st7 fun b m o z => (pinned b m o z).1, fun b m => ?_, w1⟩
          obtain ⟨o, z, -⟩ := T.obj _ _ st7 b m
          exact (pinned b m o z).2
        cases b with
        | false => exact fin I9 q9
        | true =>
          refine thnF (pe.run _ s9 σ8 H9 _ I9 q9) fun v s10 z => ?_
          obtain ⟨yv, H10, I10, r10, k, ks, rfl, eD, room, nx⟩ := z
          exact own_add (X := X.blk s3 H3 scope ce fp) I10 eD r10 room fun s11 I11 => fin I11 nx) m0 ⟨0, H3, I4, st4, bare3, w0⟩
  exact codeAny_compStart_set loop (T.self X.A 0 _ _ _ st4 loop)
end
end SX

set_option Elab.async false
set_option linter.all false
set_option maxRecDepth 100000
set_option maxHeartbeats 4000000
namespace SX
open PySem PySem.Spec PyProof.Rows L2 SrtO
/-- a text's value -/
def tx : Value → Str
  | .str x _ => x
  | _ => ⟨#[]⟩
def ltT (v u : Value) : Bool := decide ((tx v).cps.toList < (tx u).cps.toList)
theorem swo_txt : Swo ltT := by
  refine ⟨fun x y h => decide_eq_false (List.lt_asymm (of_decide_eq_true h)), fun x y z h1 h2 => decide_eq_false ?_⟩
  have a := of_decide_eq_false h1
  have b := of_decide_eq_false h2
  exact List.not_lt.mpr (List.le_trans (List.not_lt.mp a) (List.not_lt.mp b))
theorem strs_tx {vs : List Value} (h : ∀ v ∈ vs, ∃ x t, v = Value.str x t) : StrsAre vs (vs.map tx) := by
  induction vs with
  | nil => exact .nil
  | cons v r ih =>
    obtain ⟨x, t, rfl⟩ := h v List.mem_cons_self
    exact .cons x t (ih fun u m => h u (List.mem_cons_of_mem _ m))
section
variable {prog : Program} {w : World} {A : Around} {E : Value → Shared → Prop} {s : Shared}
theorem txt_sortable {a : Addr} {vs : List Value} (h : ∀ v ∈ vs, ∃ x t, v = Value.str x t) (two : 2 ≤ vs.length) : SortableO prog w A s a vs ltT := by
  intro h1 _
  refine ⟨oneType', fun Q E q => ?_, fun p q mp mq => ?_⟩
  · match vs, h, two with
    | u :: v :: r, h, _ => rw [keyKind_strs (strs_tx h)]; exact wpAny_pure q
  · obtain ⟨x, t, e⟩ := h _ mp
    obtain ⟨y, u, e1⟩ := h _ mq
    show wpAny (model prog w) A (keyLt' oneType' p.1 q.1) (fun r s1 => s1 = _ ∧ r = ltT p.1 q.1) _ _
    rw [e, e1]
    exact oneLt_str ⟨rfl, rfl⟩
end
def kt : L2.Key → Str
  | .inr x => x
  | .inl _ => ⟨#[]⟩
theorem kt_inr (l : List Str) : (l.map Sum.inr).map kt = l := by rw [List.map_map]; exact List.map_id l
/-- texts that stand in order, each at most once or more often -/
def Up (ys : List Str) : Prop := ys.Pairwise fun x y => ¬ y.cps.toList < x.cps.toList
theorem up_of {out : List Value} (h : Srtd ltT out) : Up (out.map tx) := List.pairwise_map.mpr (h.imp fun {x y} q => of_decide_eq_false q)
/-- sorted(l), l a list of texts -/
def rSortT (K : PySem.W.Frag) : List V → Hp → VK → Prop := fun vs H Q => ∃ (a : Addr) (xs : List Str), vs = [V.ref a] ∧ SqL K H a (xs.map V.str) ∧
  ∀ (ys : List Str) (p : Addr), ys.Perm xs → Up ys → H p = none → Q (.ref p) (upd H p (.lst (ys.map V.str)))
/-- sorted(a set of texts) -/
def rSortX (w : World) : List V → Hp → VK → Prop := fun vs H Q => ∃ (a : Addr) (xs : List Str), vs = [V.ref a] ∧ H a = some (Own w a (xs.map Sum.inr)) ∧
  ∀ (ys : List Str) (p : Addr), ys.Perm xs → ys.Nodup → Up ys → H p = none → Q (.ref p) (upd H p (.lst (ys.map V.str)))
section
variable {X : Cx}
theorem cr_sortT : CallR X (.builtin "sorted") (rSortT X.K) := by
  intro pins s σ H vs us Q I r h
  obtain ⟨a, xs, rfl, hs, q⟩ := h
  obtain ⟨its, rv, pl, hz⟩ := I.list hs
  rw [Vals.ref1 r]
  have sa := rv.strs
  refine sorted_ord swo_txt pl.isList (by rw [← rv.length]; exact hz) (fun two _ _ _ _ => txt_sortable sa.all two) fun out h1 h2 => ?_
  have all : ∀ v ∈ out, ∃ x t, v = Value.str x t := fun v m => sa.all v (h2.perm.mem_iff.mp m)
  have key : its.map tx = xs := by
    have z := sa.strs
    rw [← z]
    exact List.map_congr_left fun v m => by obtain ⟨x, t, rfl⟩ := sa.all v m; rfl
  have pm : (out.map tx).Perm xs := key ▸ h2.perm.map tx
  obtain ⟨ep, he⟩ := sortedAll_at s.heap its out.toArray
  have hlen : ((out.map tx).map V.str).length ≤ sizeLine := by
    rw [List.length_map, pm.length_eq, ← List.length_map (as := xs) (f := V.str)]; exact hz
  refine ⟨.ref _, upd H (s.heap.objs.size + 1) (.lst ((out.map tx).map V.str)), I.laid (t' := s.toks) (fun _ _ => sortedAll_old) (Nat.le_succ _) ⟨hlen, out, ep, vals_of_strs (strs_tx all), he⟩, rfl, ?_⟩
  exact q _ _ pm (up_of h1) (I.hok.fresh (Nat.le_succ _))
theorem cr_sortX (calm : X.calm = true) : CallR X (.builtin "sorted") (rSortX X.w) := by
  intro pins s σ H vs us Q I r h
  obtain ⟨a, xs, rfl, ha, q⟩ := h
  have R := own_get I ha
  obtain ⟨o, es, ep, t, ⟨ho, hx, hd⟩, g, m, nd, ⟨hb, hf⟩, hr, hl⟩ := R
  rw [Vals.ref1 r]
  refine Calls.call_function_entry kind_sorted plain_sorted entry_sorted (args_sorted1 _) ?_
  unfold Builtin.«sorted»
  refine wpAny_bind (m := checkCount "sorted" 1 1 _) (wpAny_pure (wpAny_bind (collect_set (A := X.A.in1) (I.ok.hd calm) ⟨o, ho, hx.1, hd⟩ hf hb hr hl fun s1 vs k1 z1 g1 o1 pm => ?_)))
  have txt : ∀ v ∈ vs, ∃ x t, v = Value.str x t := fun v mv => by
    obtain ⟨e, me, rfl⟩ := List.mem_map.mp (pm.mem_iff.mp mv)
    have mk : kx e ∈ xs.map Sum.inr := m.mem_iff.mp (List.mem_map.mpr ⟨e, me, rfl⟩)
    obtain ⟨x, -, ex⟩ := List.mem_map.mp mk
    obtain ⟨t, z⟩ := (show RelV (.str x) e.2 from by have z := (g e me).1; rw [← ex] at z; exact z)
    exact ⟨x, t, z⟩
  have kk : (vs.map tx).Perm xs := by
    have zz : (vs.map fun v => kx (0, v)).Perm (es.toList.map kx) := by
      have z := pm.map fun v => kx (0, v)
      rw [List.map_map] at z
      exact z
    have z2 : vs.map (fun v => kx (0, v)) = (vs.map tx).map Sum.inr := by
      rw [List.map_map]
      exact List.map_congr_left fun v mv => by obtain ⟨x, t, rfl⟩ := txt v mv; rfl
    rw [z2] at zz
    have z3 := (zz.trans m).map kt
    rw [kt_inr, kt_inr] at z3
    exact z3
  have few : vs.length ≤ sizeLine := by
    rw [pm.length_eq, List.length_map, Array.length_toList]
    exact fits_of_scanBound hb
  refine wpAny_bind (wpAny_newList ?_ few)
  have hoL : (s1.heap.push (seqObj "list" vs.toArray 0)).get? s1.heap.objs.size = some (seqObj "list" vs.toArray 0) := Heap.get?_push_size _ rfl
  refine wpAny_bind (wpAny_holding (wpAny_call_entry slot_list_sort ⟨_, hoL, rfl⟩ entry_list_sort (list_sort_ord swo_txt hoL few (fun two => txt_sortable txt two) fun out h1 h2 => ⟨_, rfl, ?_⟩) (args_list_sort _)))
  have all : ∀ v ∈ out, ∃ x t, v = Value.str x t := fun v mv => txt v (h2.perm.mem_iff.mp mv)
  have pm2 : (out.map tx).Perm xs := (h2.perm.map tx).trans kk
  obtain ⟨c, hc⟩ := sortedHeap_at (vs := vs) (out := out.toArray) hoL
  have hlen : ((out.map tx).map V.str).length ≤ sizeLine := by
    rw [List.length_map, List.length_map, h2.perm.length_eq]; exact few
  have hn : H s1.heap.objs.size = none := I.hok.fresh z1
  have keep : ∀ b u, s.heap.get? b = some u → (sortedHeap (s1.heap.push (seqObj "list" vs.toArray 0)) s1.heap.objs.size vs out.toArray).get? b = some u := fun b u e => by
    have z := k1 b u e
    have lt := Heap.lt_size z
    rw [sortedHeap_old (Nat.ne_of_lt lt) (by rw [Heap.size_push]; exact Nat.lt_succ_of_lt lt)]
    exact Heap.get?_push_of_some _ z
  have J : Inv X pins σ (upd H s1.heap.objs.size (.lst ((out.map tx).map V.str))) { s with heap := sortedHeap (s1.heap.push (seqObj "list" vs.toArray 0)) s1.heap.objs.size vs out.toArray, gens := s1.gens, drawn := s1.drawn, toks := s1.toks } :=
    I.call (ch := []) (Un.laid keep z1 hn) (I.hok.laid keep z1 ⟨hlen, out, c, vals_of_strs (strs_tx all), hc⟩) (by rw [g1]; exact I.bare) fun _ z => nomatch z
  refine wpAny_pure ⟨_, rfl, ?_⟩
  have e : ({ s1 with heap := sortedHeap (s1.heap.push (seqObj "list" vs.toArray 0)) s1.heap.objs.size vs out.toArray } : Shared) = { s with heap := sortedHeap (s1.heap.push (seqObj "list" vs.toArray 0)) s1.heap.objs.size vs out.toArray, gens := s1.gens, drawn := s1.drawn, toks := s1.toks } := by
    obtain ⟨h, g', d, tk, os⟩ := s1
    obtain ⟨h0, g0, d0, tk0, os0⟩ := s
    cases o1
    rfl
  refine ⟨.ref s1.heap.objs.size, _, e ▸ J, rfl, q _ _ pm2 (pm2.nodup_iff.mpr ?_) (up_of h1) hn⟩
  exact (List.pairwise_map.mp nd).imp fun {x y} z (e : x = y) => z (congrArg Sum.inr e)
end
end SX

set_option Elab.async false
set_option linter.all false
set_option maxRecDepth 100000
set_option maxHeartbeats 4000000
/-! defs that are told only where no __repr__ runs further out (repr of tuples asks that) -/
namespace RG
open PySem PySem.Spec PyProof.Rows L2
/-- as FnOk, where the frames further out run no __repr__ -/
structure FnG (P : Program) (w : World) (K : PySem.W.Frag) (mg : Str → Option Value) (base : Heap) (T : CXT) (k : Nat) (f : Addr) (fd : FuncData) (ps : List Str) (sp : Sp) : Prop where
  len : ∀ vs H Q E, sp vs H Q E → vs.length = ps.length
  run : ∀ (A : Around) (out : List Env) (s : Shared) (H : Hp) (args : Args) (us : List Value) (vs : List V) (Q : VK) (E : XK), A.guards = some [] → Room k A → Env0 P w K mg base A out s H → BindsTo s fd args (ps.zip us) → Vals vs us →
    sp vs H Q E → codeAny (model P w) A (.call (.ref f) args) (CR T out P w H s Q E) s
section
variable {P : Program} {w : World} {K : PySem.W.Frag} {mg : Str → Option Value} {base : Heap}
theorem fnG_of {x qual : Str} {st : Stmt} {f : Addr} {fd : FuncData} {N ps : List Str} {k : Nat} {sp : Sp} {T : CXT} (F : Fun K x qual st f fd) (S : FnScope N ps (defScope st)) (len : ∀ vs H Q E, sp vs H Q E → vs.length = ps.length)
    (hb : ∀ (cdv : Value) (A : Around) (out : List Env) (s : Shared) (H : Hp) (vs : List V) (Q : VK) (E : XK), A.guards = some [] → Room k (A.deeper (envOfC qual (defScope st) s.heap.objs.size f cdv)) → sp vs H Q E →
      ∃ t, PSs (cxOf T P w K mg base N qual (defScope st) f cdv A out s H E) (defBody st) t ∧ t { nx := fun _ H1 => Q .non H1, rt := Q } (start N vs) H) : FnG P w K mg base T (k + 1) f fd ps sp := by
  obtain ⟨_, _, _, _, _, _, cdv, _, _, rfl, look, code⟩ := F.ex
  constructor
  · exact len
  intro A out s H args us vs Q E guard room e0 binds r hsp
  have there : ∀ b o, base.get? b = some o → s.heap.get? b = some o := fun b o e => (e0.bs b o e).1
  have KX : K.In s.heap := e0.mod.kin.keeps there
  have kinds : ∀ y ∈ ps.zip us, (defScope st).names.lookup y.1 = some .local ∨ ((defScope st).names.lookup y.1 = some .cell ∧ ((cellsFrom (s.heap.objs.size + 1) (defScope st).names []).lookup y.1).isSome = true) := fun y m =>
    (S.par y.1 (List.of_mem_zip (show (y.1, y.2) ∈ ps.zip us from m)).1).imp id fun q => ⟨q, PySem.W.cellsFrom_some _ _ _ (.inl q)⟩
  refine codeAny_call_function room.depth (KX _ _ look) rfl S.co S.gen rfl (PySem.W.codeRec_of KX code) (binds _ _ _ _ (wpAny_newFunctionEnv_cells S.kind kinds fun env he s1 x => ?_))
  subst he
  refine ⟨(e0.mod.nolimit.keeps there).keeps x.toInCall.keep, codeAny_func ?_⟩
  obtain ⟨t, ht, hq⟩ := hb cdv A out s H vs Q E guard (room.deeper _) hsp
  have done : ∀ {σ1 : L2.St} {H1 : Hp} {v : V} {u : Value} {s1 : Shared}, Inv (cxOf T P w K mg base N qual (defScope st) f cdv A out s H E) [] σ1 H1 s1 → RelV v u → Q v H1 → CE out P w H s Q u s1 :=
    fun {σ1 H1 v u s1} J rv q => ⟨v, H1, J.os, J.bare, J.base, J.hok, rv, q⟩
  refine wpAny_mono (ht.run [] s1 (start N vs) H _ (inv_start S room.hd e0 (len _ _ _ _ hsp) r x) hq) (fun flow s2 z => ?_) fun _ _ z => z
  cases flow with
  | ret u => obtain ⟨v, _, _, J, rv, q⟩ := z; exact done J rv q
  | next => obtain ⟨_, _, J, q⟩ := z; exact done (v := .non) (u := .none) J rfl q
  | brk => obtain ⟨_, _, _, q⟩ := z; exact q.elim
  | cont => obtain ⟨_, _, _, q⟩ := z; exact q.elim
theorem FnG.mono {T : CXT} {j k : Nat} {f : Addr} {fd : FuncData} {ps : List Str} {sp : Sp} (F : FnG P w K mg base T j f fd ps sp) (h : j ≤ k) : FnG P w K mg base T k f fd ps sp :=
  ⟨F.len, fun A out s H args us vs Q E g hr => F.run A out s H args us vs Q E g (hr.mono h)⟩
end
section
variable {X : Cx} {T : CXT} {k : Nat} {f : Addr} {fd : FuncData} {ps : List Str} {sp : Sp} {dvs : List V} {ds : List Value} {E : XK} {x : Str} {p pos : Pos} {e : Expr} {es : List Expr} {t : TA}
/-- f(e, ..) -/
theorem peG_call (F : FnG X.prog X.w X.K X.mg X.base T k f fd ps sp) (guard : X.A.guards = some []) (hr : Room k X.A) (hg : Gl X x) (hm : X.mg x = some (.ref f)) (hk : PySem.W.keepIn X.K (.ref f) = true) (hb : Binds X.K fd ps ds) (hd : Vals dvs ds)
    (hx : Passes T X E) (ha : PA X (e :: es) t) (hdb : (x == ("__debug__" : Str)) = false := by decide) (he : starEach (e :: es) X.env = (false, eval e X.env) :: starEach es X.env := by rfl) (hpl : (backTo pos (starEach es X.env)).any (·.1) = false := by rfl) :
    PE X (.Call (.Name x p) (e :: es) [] pos) (tCall sp dvs E t) := by
  constructor
  intro pins s σ H Q I h
  refine wpAny_Call_Name_kw (ld_glob I hg hm (PySem.W.callWith_K (h₀ := X.base) I.ok.mod.kin hk (thn (ha.run pos pins s σ H _ I h) fun us s1 z => ?_) he hpl) hdb)
  obtain ⟨vs, H1, I1, r, q⟩ := z
  refine ⟨I1.kIn, ?_⟩
  have r2 : Vals (vs ++ dvs) (us ++ ds) := r.append hd
  have hl : (us ++ ds).length = ps.length := r2.length.symm.trans (F.len _ _ _ _ q)
  refine wpAny_call (codeAny_mono (F.run X.A X.stack s1 H1 ⟨us, []⟩ (us ++ ds) (vs ++ dvs) Q E guard hr I1.env0 (hb s1 us I1.kIn hl) r2 q) fun r s2 z => ?_)
  match r, z with
  | .error v, z => exact hx pins σ H1 s1 v s2 I1 z
  | .ok (.ret u), z => exact I1.after z
  | .ok .next, z => exact (show False from z).elim
  | .ok .brk, z => exact (show False from z).elim
  | .ok .cont, z => exact (show False from z).elim
end
/-- the law's call from outside -/
theorem lawG {P : Program} {w : World} {K : PySem.W.Frag} {mg mb : Str → Option Value} {T : CXT} {k : Nat} {fa a : Addr} {fd : FuncData} {x : Str} {sp : Sp} {s1 : Shared} {vs : List Value} {ns : List Int}
    (KX : K.In s1.heap) (hns : s1.heap.Ns mainGlobals mg) (hb : s1.heap.Ns builtinsNs mb) (hbb : ∀ y : Str, y ≠ "__name__" → mb y = bootBuiltins y) (hlim : s1.heap.NoLimit) (hg : s1.gens = #[])
    (ha : s1.heap.get? a = some { cls := .type "list", data := .seq vs.toArray }) (hi : IntsAre vs ns) (hl : ns.length ≤ sizeLine) (hr : Room k callerA)
    (F : ∀ base : Heap, K.In base → base.Ns mainGlobals mg → FnG P w K mg base T k fa fd [x] sp) (bind : ∀ (s : Shared) (u : Value), BindsTo s fd ⟨[u], []⟩ [(x, u)])
    (hsp : ∀ H : Hp, Only H → SqL K H a (ns.map V.int) → sp [.ref a] H (fun v _ => v = .bl true) fun _ _ _ => False) (hT : ∀ H e s2, T [] H s1 (fun _ _ _ => False) e s2 → False) :
    codeAny (model P w) callerA (.call (.ref fa) ⟨[.ref a], []⟩) (fun r s2 => r = .ok (.ret (.bool true)) ∧ OldK s1.heap s2.heap ∧ s2.os = s1.os ∧ AllBare s2.gens) s1 := by
  -- what is tracked: the script, where the module doesn't hold it itself
  obtain ⟨H, only, seq, hok, just, free⟩ : ∃ H : Hp, Only H ∧ SqL K H a (ns.map V.int) ∧ HOk P w H s1.heap ∧ (∀ b, H b ≠ none → b = a) ∧ (H a ≠ none → K.lookup a = none) := by
    have rv := vals_ints hi
    cases hk : K.lookup a with
    | some o =>
      have e := KX a o hk
      rw [ha] at e
      cases e
      refine ⟨fun _ => none, fun _ => .inl rfl, .inr ⟨_, vs.toArray, _, hk, rfl, rfl, rfl, ?_, by simpa using rv⟩, fun b u z => (nomatch (show (none : Option HO) = some u from z)), fun b z => absurd rfl z, fun z => absurd rfl z⟩
      rw [List.size_toArray, hi.length]; exact hl
    | none =>
      refine ⟨upd (fun _ => none) a (.frz { cls := .type "list", data := .seq vs.toArray } (.lst (ns.map V.int))), fun b => ?_, .inl (.inr ⟨_, upd_same⟩), fun b u z => ?_, fun b z => ?_, fun _ => rfl⟩
      · rcases Decidable.em (b = a) with q | q
        · subst q; exact .inr ⟨_, _, upd_same⟩
        · exact .inl (upd_ne q)
      · rcases Decidable.em (b = a) with q | q
        · subst q
          rw [upd_same] at z
          cases z
          exact ⟨ha, by rw [List.length_map]; exact hl, vs, _, rv, ha⟩
        · rw [upd_ne q] at z; cases z
      · rcases Decidable.em (b = a) with q | q
        · exact q
        · exact absurd (upd_ne q) z
  have bare : ∀ {b : Addr} {o : Obj}, s1.heap.get? b = some o → (b = a → False) → (hidT s1.heap H).get? b = some o := fun {b o} e n => hidT_get e (by
    cases q : H b with
    | none => rfl
    | some u => exact (n (just b (by rw [q]; exact nofun))).elim)
  have names : ∀ {b : Addr} {m : Str → Option Value}, s1.heap.Ns b m → (hidT s1.heap H).Ns b m := fun {b m} z => by
    obtain ⟨o, es, ep, e, d, r⟩ := z
    exact ⟨o, es, ep, bare e (fun q => by subst q; rw [ha] at e; cases e; cases d), d, r⟩
  have kb : K.In (hidT s1.heap H) := fun b o e => by
    cases q : H b with
    | none => exact hidT_get (KX b o e) q
    | some u =>
      have eb := just b (by rw [q]; exact nofun)
      subst eb
      rw [free (by rw [q]; exact nofun)] at e
      cases e
  have hM : Mod K mg (hidT s1.heap H) := by
    obtain ⟨mc, h1, h2⟩ := hlim
    exact ⟨kb, names hns, ⟨mb, names hb, hbb⟩, mc, names h1, h2⟩
  have e0 : Env0 P w K mg (hidT s1.heap H) callerA [] s1 H :=
    { frames := rfl, mod := hM, bs := fun b o e => of_hidT e, bsz := Nat.le_of_eq (hidT_size _ _), funs := trivial, frf := fun b m => absurd (show b ∈ ([] : List Addr) from m) (by simp), hok := hok, bare := .of_eq hg }
  refine codeAny_mono ((F _ kb (names hns)).run callerA [] s1 H ⟨[.ref a], []⟩ [.ref a] [.ref a] _ _ rfl hr e0 (bind s1 (.ref a)) (.cons rfl .nil) (hsp H only seq)) fun r s2 z => ?_
  match r, z with
  | .error e, z => exact (hT H e s2 z).elim
  | .ok .next, z => exact (show False from z).elim
  | .ok .brk, z => exact (show False from z).elim
  | .ok .cont, z => exact (show False from z).elim
  | .ok (.ret u), z =>
    obtain ⟨v, H2, os, gens, un, hok2, rv, q⟩ := z
    cases (show v = .bl true from q)
    cases (show u = Value.bool true from rv)
    refine ⟨rfl, OldK.of_keep fun b o e => ?_, os, gens⟩
    rcases only b with q | ⟨ob, xs, q⟩
    · exact un.keep b o e q (fun m => absurd (show b ∈ ([] : List Addr) from m) (by simp)) (by simp)
    · have e1 := (hok b _ q).1
      rw [e] at e1
      cases e1
      exact (hok2 b _ (un.frzs b o _ q)).1
theorem walkG {l : PySem.W.OpenLaw} {n k : Nat} {q : Program} {loose : List Str} {XP : (Str → Option Value) → Heap → Prop} {YP : World → Heap → Prop} {d : DefRec} {K : Params → PySem.W.Frag} {T : World → CXT} {sp : World → Sp} {x : Str}
    (hn : l.most = some n) (hn2 : n ≤ sizeLine) (hdf : d.params.defaults = []) (hr : Room k callerA) (hY : ∀ (w : World) (h : Heap), YP w h → (K w.params).In h)
    (F : ∀ (w : World) (mg : Str → Option Value) (fa : Addr) (h : Heap), (K w.params).In h → h.Ns mainGlobals mg → mg d.name = some (.ref fa) → ∃ fd : FuncData, (∀ (s : Shared) (u : Value), BindsTo s fd ⟨[u], []⟩ [(x, u)]) ∧
        ∀ base : Heap, (K w.params).In base → base.Ns mainGlobals mg → FnG l.prog w (K w.params) mg base (T w) k fa fd [x] (sp w))
    (hsp : ∀ (w : World) (H : Hp) (a : Addr) (ns : List Int), ns.length ≤ n → Only H → SqL (K w.params) H a (ns.map V.int) → sp w [.ref a] H (fun v _ => v = .bl true) fun _ _ _ => False)
    (hT : ∀ (w : World) (H : Hp) (s : Shared) (e : Value) (s2 : Shared), T w [] H s (fun _ _ _ => False) e s2 → False) : PySem.W.WalkO q loose XP YP l.row.toRowW d [] (fun f vs => PySem.call f vs) :=
  Att.attach_call hn hdf fun w _ s1 _ _ _ _ _ _ _ a _ ns G Y _ _ _ named ob are few gen =>
    let ⟨_, hb, hF⟩ := F w _ _ _ (hY w _ Y) G.T.g named
    lawG (hY w _ Y) G.T.g G.T.b G.T.builtins G.T.nolimit gen ob are (Nat.le_trans few hn2) hr hF hb (fun H only seq => hsp w H a ns few only seq) fun H e s2 => hT w H s1 e s2
end RG

set_option Elab.async false
set_option linter.all false
set_option maxRecDepth 100000
set_option maxHeartbeats 4000000
namespace RG
open PySem PySem.Spec PyProof.Rows L2
section
variable {X : Cx}
/-! text * number -/
def repL (l : List Nat) (n : Nat) : List Nat := (List.replicate n l).flatten
def rRepS : R2 := fun x y H Q => ∃ (a : Str) (n : Nat), x = .str a ∧ y = .int (n : Nat) ∧ n ≤ 1000 ∧ a.length ≤ 1000 ∧ ∀ b : Str, b.cps.toList = repL a.cps.toList n → Q (.str b) H
theorem fold_app (l : List (Array Nat)) (acc : Array Nat) : (l.foldl (· ++ ·) acc).toList = acc.toList ++ (l.map Array.toList).flatten := by
  induction l generalizing acc with
  | nil => simp
  | cons a r ih => rw [List.foldl_cons, ih]; simp
theorem op_repS : OpR X (binaryOp .Mult) rRepS := by
  intro pins s σ H x y v u Q I rx ry h
  obtain ⟨a, n, rfl, rfl, hn, ha, q⟩ := h
  obtain ⟨t, rfl⟩ := rx
  obtain ⟨t', rfl⟩ := ry
  have hz : a.length * n ≤ 1000000 := by
    calc a.length * n ≤ 1000 * 1000 := Nat.mul_le_mul ha hn
      _ = 1000000 := by decide
  refine PySem.P.mul_str ?_ (fun _ _ => ?_) (fun _ _ => ?_) ?_
  · rw [decide_eq_false (by omega), decide_eq_false (by omega)]; rfl
  · have h1 : (1000 : Int) ≤ (2 ^ 63 - 1) / (n : Int) := by
      rcases Nat.eq_zero_or_pos n with e | e
      · omega
      · refine (Int.le_ediv_iff_mul_le (by omega)).mpr ?_
        have : (1000 : Int) * n ≤ 1000 * 1000 := by omega
        omega
    omega
  · unfold Builtin.Str.tooLong
    rw [sizeLine_eq]
    refine decide_eq_false ?_
    rw [Int.toNat_natCast]; omega
  · by_cases c1 : ((n : Nat) : Int) < 1
    · rw [if_pos c1]
      have e : n = 0 := by omega
      subst e
      exact ⟨by decide, ⟨.str Str.empty, H, I.tok _, ⟨_, rfl⟩, q Str.empty rfl⟩⟩
    · rw [if_neg c1]
      by_cases c2 : (((n : Nat) : Int) == 1 || a.length == 0) = true
      · rw [if_pos c2]
        refine ⟨.str a, H, I, ⟨_, rfl⟩, q a ?_⟩
        rcases Bool.or_eq_true_iff.mp c2 with z | z
        · have e : n = 1 := by have := eq_of_beq z; omega
          subst e
          simp [repL]
        · have e : a.cps.toList = [] := by
            have z1 : a.cps.size = 0 := eq_of_beq z
            exact List.eq_nil_of_length_eq_zero (by rw [Array.length_toList]; exact z1)
          rw [e]
          unfold repL
          induction n with
          | zero => rfl
          | succ m ih => simp
      · rw [if_neg c2]
        have tl : (⟨(List.replicate (Int.toNat (n : Nat)) a.cps).foldl (· ++ ·) #[]⟩ : Str).cps.toList = repL a.cps.toList n := by
          rw [fold_app, Int.toNat_natCast]
          simp [repL]
        refine ⟨?_, ⟨.str _, H, I.tok _, ⟨_, rfl⟩, q _ tl⟩⟩
        have : (⟨(List.replicate (Int.toNat (n : Nat)) a.cps).foldl (· ++ ·) #[]⟩ : Str).length = a.length * n := by
          show Array.size _ = _
          rw [← Array.length_toList, tl]
          simp [repL, Str.length, Nat.mul_comm]
        rw [this, sizeLine_eq]; omega
/-! l.extend(t), t a tuple -/
def rExtT (K : PySem.W.Frag) : V → List V → Hp → VK → Prop := fun x vs H Q => ∃ l b xs zs, x = .ref l ∧ vs = [.ref b] ∧ H l = some (.lst xs) ∧ SqT K H b zs ∧ xs.length + zs.length ≤ sizeLine ∧ Q .non (upd H l (.lst (xs ++ zs)))
theorem meets_ext (l : Addr) (items : Array Value) (n : Nat) (b : Addr) (more : Array Value) (n2 : Nat) (d : Option Addr) (sl : Array (Option Value)) (h0 : ¬(!items.isEmpty && Builtin.List.listTooLong (items.size + more.size)) = true) (h1 : items.size ≤ sizeLine) (h2 : items.size + more.size ≤ sizeLine + 1) :
    Meets (Builtin.«list.extend» ⟨[.ref l, .ref b], []⟩) (fun _ R s => s.heap.get? l = some { cls := .type "list", dict := none, data := .seq items n, slots := #[] } ∧ s.heap.get? b = some { cls := .type "tuple", dict := d, data := .seq more n2, slots := sl } ∧
      R (.ok (.ret Value.none)) { s with heap := s.heap.update l (Obj.mapSeq (fun xs => xs ++ more)) }) :=
  .of_wp fun prog w A R s h => by
    obtain ⟨hp, g, dr, tk, os⟩ := s
    obtain ⟨hl, hb, h⟩ := h
    have f1 := AutoSeq1.idx_int
    have f2 := AutoSeq1.sub_tuple_tuple
    have f3 := AutoSeq1.sub_list_list
    have f4 := AutoSeq1.sub_tuple_list
    have f5 := AutoSeq1.sub_list_tuple
    have hz : (items ++ more).size ≤ sizeLine + 1 := by rw [Array.size_append]; exact h2
    wp_walk using (wpAny_updateSeq hl rfl (hz := h1) (_hz' := hz)), wpAny_loadPart' hl, wpAny_loadPart' hb
    exact ⟨_, rfl, h⟩
theorem mt_extT : MtM X "list.extend" (rExtT X.K) := by
  intro pins s σ H x vs v us Q I rx rv h
  obtain ⟨l, b, xs, zs, rfl, rfl, hl, hb, hz, q⟩ := h
  cases rx
  obtain ⟨u, rfl, ru⟩ := rv.one
  cases ru
  obtain ⟨_, its, n, r, hl1, e⟩ := I.lstM hl
  obtain ⟨its2, r2, ⟨⟨oc, od, oda, osl⟩, ho, hc, n2, hda⟩, _⟩ := I.tuple hb
  cases hc
  cases hda
  have sz : its.toArray.size + its2.toArray.size ≤ sizeLine := by rw [List.size_toArray, List.size_toArray, ← r2.length]; omega
  have nl : ¬ (!its.toArray.isEmpty && Builtin.List.listTooLong (its.toArray.size + its2.toArray.size)) = true := by rw [notLongL sz, Bool.and_false]; exact Bool.false_ne_true
  refine call_meets F.slot_list_extend ⟨_, e, rfl⟩ F.entry_list_extend (F.args_list_extend_2 _ _) (meets_ext l its.toArray n b its2.toArray n2 od osl nl (by rw [List.size_toArray]; omega) (by omega)) ⟨e, ho, ?_⟩
  exact ⟨.non, _, I.lset (its' := its ++ its2) hl e (by simp) (r.append r2) (by rw [List.length_append]; omega), rfl, q⟩
/-! e.split(..), a token out -/
theorem pet_split {o e : Expr} {to te : TE} {apos pos : Pos} (ho : PET X o to) (he : PE X e te) (hs : starEach [e] X.env = [(false, eval e X.env)] := by rfl) (hbase : attributeBase o "split" X.env (eval o X.env) = eval o X.env := by rfl)
    (hline : (apos.endLine == pos.line) = true := by rfl) :
    PET X (.Call (.Attribute o "split" apos) [e] [] pos) (tM1 (fun x xs H Q => ∃ a b, x = .str a ∧ xs = [.str b] ∧ (b.length == 0) = false ∧ a.length + 2 ≤ sizeLine ∧ rNewStrs (Txt.split a b) H Q) to te) := by
  intro pins s σ H Q tok I h
  refine PySem.Call_method1 hbase hs hline (thn (ho pins s σ H _ tok I h) fun v s1 z => ?_)
  obtain ⟨x, H1, I1, r1, ⟨a, rfl⟩, q1⟩ := z
  have r1' := r1
  obtain ⟨t, rfl⟩ := r1'
  refine ⟨"str", _, F.plainAttrs_str, F.slot_str_split, F.type_str_split, typeIs_str _ _ _, (fun _ e => nomatch e), Calls.callWith_builtin rfl (Calls.evalArgs_plain (Calls.spliced_cons (thn (he.run pins s1 σ H1 _ I1 q1) fun u s2 z => ?_)))⟩
  obtain ⟨y, H2, I2, r2, q2⟩ := z
  exact Calls.spliced_nil (mt_split pins s2 σ H2 _ [y] _ [u] Q I2 r1 (.cons r2 .nil) q2)
/-! == and != of data, deeper -/
def rNeDD (K : PySem.W.Frag) : R2 := fun x y H Q => ∃ d e, Dp K H x d ∧ Dp K H y e ∧ (PyData.canLay0 d = true ∧ PyData.canLay0 e = true ∧ d.depth ≤ 150) ∧ Q (.bl (!PyData.eqv d e)) H
def rEqDD (K : PySem.W.Frag) : R2 := fun x y H Q => ∃ d e, Dp K H x d ∧ Dp K H y e ∧ (PyData.canLay0 d = true ∧ PyData.canLay0 e = true ∧ d.depth ≤ 150) ∧ Q (.bl (PyData.eqv d e)) H
theorem op_neDD {k : Nat} (hr : Room k X.A) : OpR X (compareOp .NotEq) (rNeDD X.K) := by
  intro pins s σ H x y v u Q I rx ry h
  obtain ⟨d, e, hd, he, ⟨cd, ce, dd⟩, q⟩ := h
  obtain ⟨as, r1⟩ := Dp.reads I d x v hd rx
  obtain ⟨bs, r2⟩ := Dp.reads I e y u he ry
  have hu := hr.un
  refine SeqAt.compareNe_reads r1 r2 cd ce ?_ ⟨.bl _, H, I, rfl, q⟩
  have := Nat.min_le_left d.depth e.depth
  omega
theorem op_eqDD {k : Nat} (hr : Room k X.A) : OpR X (compareOp .Eq) (rEqDD X.K) := by
  intro pins s σ H x y v u Q I rx ry h
  obtain ⟨d, e, hd, he, ⟨cd, ce, dd⟩, q⟩ := h
  obtain ⟨as, r1⟩ := Dp.reads I d x v hd rx
  obtain ⟨bs, r2⟩ := Dp.reads I e y u he ry
  have hu := hr.un
  refine SeqAt.compareEq_reads r1 r2 cd ce ?_ ⟨.bl _, H, I, rfl, q⟩
  have := Nat.min_le_left d.depth e.depth
  omega
/-! repr(x), x a tuple of data -/
def rRepr (K : PySem.W.Frag) : List V → Hp → VK → Prop := fun xs H Q => ∃ (a : Addr) (d : PyData), xs = [.ref a] ∧ Dp K H (.ref a) d ∧ d.showable = true ∧ d.hasDict = false ∧ d.depth ≤ 150 ∧ d.shown.length ≤ sizeLine ∧ Q (.str d.shown) H
theorem cr_repr {k : Nat} (guard : X.A.guards = some []) (hr : Room k X.A) : CallR X (.builtin "repr") (rRepr X.K) := by
  intro pins s σ H xs us Q I r h
  obtain ⟨a, d, rfl, hd, hs, hn, hdep, hz, q⟩ := h
  obtain ⟨u, rfl, ru⟩ := vals1 r
  cases ru
  obtain ⟨as, rd⟩ := Dp.reads I d _ _ hd rfl
  have hu := hr.un
  refine repr_of_reads' rd hs (fun z => by rw [hn] at z; cases z) guard (by omega) (fun _ _ z => z) (fun h1 tk t1 kp => ?_) hz
  exact ⟨.str d.shown, H, I.call' (s' := { s with heap := h1, toks := t1 }) (ch := []) rfl (Un.kept kp) (I.hok.kept kp) I.bare (fun _ z => nomatch z), ⟨_, rfl⟩, q⟩
end
end RG

set_option Elab.async false
set_option linter.all false
set_option maxRecDepth 100000
set_option maxHeartbeats 4000000
namespace K7
open PySem PySem.Spec PyProof.Rows L2 GX NdefX
theorem same_upd {H : Hp} {p : Addr} {o : HO} (h : H p = none) : Same H (upd H p o) := fun b x e => by
  rw [upd_ne (ne_of_none e h)]
  exact e
/-- a list or a tuple of ours -/
def Sq (H : Hp) (a : Addr) (xs : List V) : Prop := H a = some (.lst xs) ∨ H a = some (.tup xs)
theorem Sq.same {H H' : Hp} {a : Addr} {xs : List V} (s : Same H H') (h : Sq H a xs) : Sq H' a xs := h.elim (fun z => .inl (s _ _ z)) fun z => .inr (s _ _ z)
theorem sqL {K : PySem.W.Frag} {H : Hp} {a : Addr} {xs : List V} (h : H a = some (.lst xs)) : SqL K H a xs := .inl (.inl h)
theorem sqT {K : PySem.W.Frag} {H : Hp} {a : Addr} {xs : List V} (h : H a = some (.tup xs)) : SqT K H a xs := .inl (.inl h)
theorem Sq.lt {K : PySem.W.Frag} {H : Hp} {a : Addr} {xs : List V} (h : Sq H a xs) : SqL K H a xs ∨ SqT K H a xs := h.elim (fun z => .inl (sqL z)) fun z => .inr (sqT z)
theorem Sq.ty {K : PySem.W.Frag} {H : Hp} {a : Addr} {xs : List V} (h : Sq H a xs) : TyX K H (.ref a) (.type "list") ∨ TyX K H (.ref a) (.type "tuple") := h.elim (fun z => .inl (.base (.lst z))) fun z => .inr (.base (.tup z))
theorem new_ne {H : Hp} {a p : Addr} {o : HO} (h : H a = some o) (np : H p = none) : a ≠ p := ne_of_none h np
/-- a walk of a list or a tuple -/
def iSeq (K : PySem.W.Frag) (tl : TE) : TI := fun σ H R => tl σ H fun x H1 => ∃ a xs, x = .ref a ∧ ((SqL K H1 a xs ∧ R (Itl K a) H1) ∨ (SqT K H1 a xs ∧ R (Itt K a) H1))
theorem pi_seq {X : Cx} {tg l : Expr} {tl : TE} (hl : PE X l tl) : PI X tg l (iSeq X.K tl) := by
  refine ⟨fun pins s σ H R I h => ?_⟩
  refine thn (hl.run pins s σ H _ I h) fun v s1 ⟨x, H1, I1, r1, q1⟩ => ?_
  obtain ⟨a, xs, e, q⟩ := q1
  subst e
  cases r1
  rcases q with ⟨hq, q⟩ | ⟨hq, q⟩
  · obtain ⟨its, rv, p, hz⟩ := I1.list hq
    refine wpAny_pyIter_list p.isList ?_
    refine ⟨s1.heap.objs.size, [s1.heap.objs.size], _, _, H1, rfl, I1.kept (t' := s1.toks) fun b o e => Heap.get?_push_of_some _ e, turn_list a _, ⟨_, Heap.get?_push_size _ rfl, rfl, rfl⟩, fun b hb => ?_, q⟩
    have e : b = s1.heap.objs.size := by simpa using hb
    subst e
    exact I1.fpOk (Nat.le_refl _) (I1.hok.fresh (Nat.le_refl _))
  · obtain ⟨its, rv, p, hz⟩ := I1.tuple hq
    refine wpAny_pyIter_tuple (show s1.heap.IsTuple a its.toArray from p) ?_
    refine ⟨s1.heap.objs.size, [s1.heap.objs.size], _, _, H1, rfl, I1.kept (t' := s1.toks) fun b o e => Heap.get?_push_of_some _ e, turn_tuple a _, ⟨_, Heap.get?_push_size _ rfl, rfl, rfl⟩, fun b hb => ?_, q⟩
    have e : b = s1.heap.objs.size := by simpa using hb
    subst e
    exact I1.fpOk (Nat.le_refl _) (I1.hok.fresh (Nat.le_refl _))
def wholeV (l m : Int) : V → Bool
  | .int i => decide (l ≤ i) && decide (i ≤ m)
  | _ => false
def Scal (x : V) : Prop := x = .non ∨ (∃ i, x = .int i) ∨ ∃ z, x = .str z
theorem lcGen {J : It} {n : Nat} {g : TG} {tt : TT} {te : TE} {vs : List Nat} {σ : L2.St} {H1 : Hp} {D : Addr} {Qd : Hp → Prop} (keep : Nat → Bool) (vals : Nat → V) (nD : H1 D = none) (hn : n ≤ 4000)
    (go : ∀ i H, i < n → Same H1 H → J.go i H) (stop : ∀ H, Same H1 H → J.stop n H)
    (turn : ∀ i x H H' (Qk : VK) (Qn : Hp → Prop), i < n → Same H1 H → J.yld i H x H' → (∀ H4, Same H H4 → keep i = true → Qk (vals i) H4) → (∀ H4, Same H H4 → keep i = false → Qn H4) →
      g x (wipe σ vs) H' fun σ2 H2 => wipe σ2 vs = wipe σ vs ∧ tt σ2 H2 fun b H3 => if b = true then te σ2 H3 Qk else Qn H3)
    (done : ∀ H, Same H1 H → H D = some (.lst (((List.range n).filter keep).map vals)) → Qd H) :
    ∃ W : Nat → Nat → Hp → Prop, (∃ m, W 0 m (upd H1 D (.lst []))) ∧ ∀ i m H, W i m H →
      (J.stop i H ∧ Qd H) ∨ (J.go i H ∧ ∃ Nx : Hp → Prop, (∀ H', Nx H' → ∃ m', m' < m ∧ W (i + 1) m' H') ∧ ∀ x H', J.yld i H x H' → g x (wipe σ vs) H' fun σ2 H2 => wipe σ2 vs = wipe σ vs ∧ tt σ2 H2 fun b H3 =>
        if b = true then te σ2 H3 fun y H4 => ∃ acc, H4 D = some (.lst acc) ∧ acc.length < sizeLine ∧ Nx (upd H4 D (.lst (acc ++ [y]))) else Nx H3) := by
  refine ⟨fun i m H => m = n - i ∧ i ≤ n ∧ Same H1 H ∧ H D = some (.lst (((List.range i).filter keep).map vals)), ⟨n, rfl, Nat.zero_le _, same_upd nD, upd_same⟩, ?_⟩
  rintro i m H ⟨rfl, hi, sm, eD⟩
  by_cases hlt : i < n
  · refine .inr ⟨go i H hlt sm, fun H' => Same H1 H' ∧ H' D = some (.lst (((List.range (i + 1)).filter keep).map vals)), fun H' p => ⟨n - (i + 1), by omega, rfl, hlt, p.1, p.2⟩, fun x H' y => ?_⟩
    refine turn i x H H' _ _ hlt sm y (fun H4 s4 hk => ⟨_, s4 _ _ eD, ?_, ?_, ?_⟩) (fun H4 s4 hk => ⟨sm.trans s4, ?_⟩)
    · rw [List.length_map]
      have h1 := List.length_filter_le keep (List.range i)
      rw [List.length_range] at h1
      rw [sizeLine_eq]
      omega
    · exact fun b o e => by
        rw [upd_ne (ne_of_none e nD)]
        exact s4 _ _ (sm _ _ e)
    · rw [upd_same, List.range_succ, List.filter_append, List.map_append]
      simp [hk]
    · rw [s4 _ _ eD, List.range_succ, List.filter_append, List.map_append]
      simp [hk]
  · have e : i = n := by omega
    subst e
    exact .inl ⟨stop H sm, done H sm eD⟩
theorem lcMap {J : It} {n : Nat} {g : TG} {te : TE} {vs : List Nat} {σ : L2.St} {H1 : Hp} {D : Addr} {Qd : Hp → Prop} (vals : Nat → V) (nD : H1 D = none) (hn : n ≤ 4000)
    (go : ∀ i H, i < n → Same H1 H → J.go i H) (stop : ∀ H, Same H1 H → J.stop n H)
    (turn : ∀ i x H H' (Qk : VK) (Qn : Hp → Prop), i < n → Same H1 H → J.yld i H x H' → (∀ H4, Same H H4 → Qk (vals i) H4) → g x (wipe σ vs) H' fun σ2 H2 => wipe σ2 vs = wipe σ vs ∧ tYes σ2 H2 fun b H3 => if b = true then te σ2 H3 Qk else Qn H3)
    (done : ∀ H, Same H1 H → H D = some (.lst ((List.range n).map vals)) → Qd H) :
    ∃ W : Nat → Nat → Hp → Prop, (∃ m, W 0 m (upd H1 D (.lst []))) ∧ ∀ i m H, W i m H →
      (J.stop i H ∧ Qd H) ∨ (J.go i H ∧ ∃ Nx : Hp → Prop, (∀ H', Nx H' → ∃ m', m' < m ∧ W (i + 1) m' H') ∧ ∀ x H', J.yld i H x H' → g x (wipe σ vs) H' fun σ2 H2 => wipe σ2 vs = wipe σ vs ∧ tYes σ2 H2 fun b H3 =>
        if b = true then te σ2 H3 fun y H4 => ∃ acc, H4 D = some (.lst acc) ∧ acc.length < sizeLine ∧ Nx (upd H4 D (.lst (acc ++ [y]))) else Nx H3) :=
  lcGen (tt := tYes) (fun _ => true) vals nD hn go stop (fun i x H H' Qk Qn h1 h2 h3 h4 _ => turn i x H H' Qk Qn h1 h2 h3 fun H4 s4 => h4 H4 s4 rfl)
    (fun H s e => done H s (by rw [e, List.filter_eq_self.mpr (fun _ _ => rfl)]))
def LcR (J : It) (g : TG) (tt : TT) (te : TE) (vs : List Nat) (σ : L2.St) (H1 : Hp) (Q : VK) : Prop := ∀ D, H1 D = none → ∃ W : Nat → Nat → Hp → Prop, (∃ m, W 0 m (upd H1 D (.lst []))) ∧ ∀ i m H, W i m H →
  (J.stop i H ∧ Q (.ref D) H) ∨ (J.go i H ∧ ∃ Nx : Hp → Prop, (∀ H', Nx H' → ∃ m', m' < m ∧ W (i + 1) m' H') ∧ ∀ x H', J.yld i H x H' → g x (wipe σ vs) H' fun σ2 H2 => wipe σ2 vs = wipe σ vs ∧ tt σ2 H2 fun b H3 =>
    if b = true then te σ2 H3 fun y H4 => ∃ acc, H4 D = some (.lst acc) ∧ acc.length < sizeLine ∧ Nx (upd H4 D (.lst (acc ++ [y]))) else Nx H3)
theorem map_getD {α : Type} (f : V → α) (d : V) : ∀ xs : List V, (List.range xs.length).map (fun i => f (xs.getD i d)) = xs.map f
  | [] => rfl
  | x :: r => by
    rw [List.length_cons, List.range_succ_eq_map, List.map_cons, List.map_map, List.map_cons]
    exact congrArg (f x :: ·) (map_getD f d r)
theorem lcSeq {K : PySem.W.Frag} {a : Addr} {xs : List V} {g : TG} {te : TE} {vs : List Nat} {σ : L2.St} {H1 : Hp} {Q : VK} (vals : V → V) (hq : Sq H1 a xs) (hn : xs.length ≤ 4000)
    (turn : ∀ (i : Nat) (x : V) (H : Hp) (Qk : VK) (Qn : Hp → Prop), xs[i]? = some x → Same H1 H → (∀ H4, Same H H4 → Qk (vals x) H4) → g x (wipe σ vs) H fun σ2 H2 => wipe σ2 vs = wipe σ vs ∧ tYes σ2 H2 fun b H3 => if b = true then te σ2 H3 Qk else Qn H3)
    (done : ∀ D H, H1 D = none → Same H1 H → H D = some (.lst (xs.map vals)) → Q (.ref D) H) :
    (SqL K H1 a xs ∧ LcR (Itl K a) g tYes te vs σ H1 Q) ∨ (SqT K H1 a xs ∧ LcR (Itt K a) g tYes te vs σ H1 Q) := by
  have gd : ∀ {i : Nat} {x : V}, xs[i]? = some x → xs.getD i .non = x := fun {i x} h => by
    rw [List.getD_eq_getElem?_getD, h]
    rfl
  rcases hq with hq | hq
  · refine .inl ⟨sqL hq, fun D nD => lcMap (n := xs.length) (fun i => vals (xs.getD i .non)) nD hn (fun i H h s => ⟨xs, xs[i], sqL (s _ _ hq), List.getElem?_eq_getElem h⟩) (fun H s => ⟨xs, sqL (s _ _ hq), Nat.le_refl _⟩)
      (fun i x H H' Qk Qn h s y hk => ?_) (fun H s e => done D H nD s (by rw [e, map_getD]))⟩
    obtain ⟨rfl, y⟩ := y
    have hx := y xs (sqL (s _ _ hq))
    exact turn i x _ Qk Qn hx s fun H4 s4 => by
      have z := hk H4 s4
      rw [gd hx] at z
      exact z
  · refine .inr ⟨sqT hq, fun D nD => lcMap (n := xs.length) (fun i => vals (xs.getD i .non)) nD hn (fun i H h s => ⟨xs, xs[i], sqT (s _ _ hq), List.getElem?_eq_getElem h⟩) (fun H s => ⟨xs, sqT (s _ _ hq), Nat.le_refl _⟩)
      (fun i x H H' Qk Qn h s y hk => ?_) (fun H s e => done D H nD s (by rw [e, map_getD]))⟩
    obtain ⟨rfl, y⟩ := y
    have hx := y xs (sqT (s _ _ hq))
    exact turn i x _ Qk Qn hx s fun H4 s4 => by
      have z := hk H4 s4
      rw [gd hx] at z
      exact z
theorem PE.imp {X : Cx} {e : Expr} {t t' : TE} (h : PE X e t) (i : ∀ σ H Q, t' σ H Q → t σ H Q) : PE X e t' := ⟨fun pins s σ H Q I q => h.run pins s σ H Q I (i σ H Q q)⟩
theorem PS.imp {X : Cx} {e : Stmt} {t t' : TS} (h : PS X e t) (i : ∀ D σ H, t' D σ H → t D σ H) : PS X e t' := ⟨fun pins s σ H D I q => h.run pins s σ H D I (i D σ H q)⟩
theorem wipe1 (σ : L2.St) (c : Nat) (x : V) : (wipe σ [c]).set c (some x) = σ.set c (some x) := by
  show (σ.set c none).set c (some x) = _
  rw [List.set_set]
theorem wipe2 (σ : L2.St) (c : Nat) (x : V) : wipe (σ.set c (some x)) [c] = wipe σ [c] := by
  show (σ.set c (some x)).set c none = σ.set c none
  rw [List.set_set]
def tMapSeq (j c : Nat) (te : TE) : TE := fun σ H Q => ∃ (a : Addr) (xs : List V) (vals : V → V), σ[j]? = some (some (.ref a)) ∧ Sq H a xs ∧ xs.length ≤ 4000 ∧
  (∀ (i : Nat) (x : V) (H2 : Hp) (Qk : VK), xs[i]? = some x → Same H H2 → (∀ H4, Same H2 H4 → Qk (vals x) H4) → te (σ.set c (some x)) H2 Qk) ∧
  ∀ D H', H D = none → Same H H' → H' D = some (.lst (xs.map vals)) → Q (.ref D) H'
theorem tMapSeq_ok {K : PySem.W.Frag} {j c : Nat} {te : TE} {σ : L2.St} {H : Hp} {Q : VK} (h : tMapSeq j c te σ H Q) : tLc (iSeq K (tVar j)) (gName c) tYes te [c] σ H Q := by
  obtain ⟨a, xs, vals, hj, hq, hn, turn, done⟩ := h
  refine ⟨.ref a, hj, a, xs, rfl, lcSeq (g := gName c) (te := te) (vs := [c]) (σ := σ) (Q := Q) vals hq hn (fun i x H2 Qk Qn hx s hk => ?_) done⟩
  show wipe ((wipe σ [c]).set c (some x)) [c] = wipe σ [c] ∧ (if true = true then te ((wipe σ [c]).set c (some x)) H2 Qk else Qn H2)
  rw [wipe1, wipe2]
  exact ⟨rfl, iteT (turn i x H2 Qk hx s hk)⟩
theorem getD_of {xs : List V} {i : Nat} {x d : V} (h : xs[i]? = some x) : xs.getD i d = x := by
  rw [List.getD_eq_getElem?_getD, h]
  rfl
theorem dpInts {K : PySem.W.Frag} {H : Hp} : ∀ ns : List Int, DpAll K H (ns.map V.int) (ns.map PyData.int)
  | [] => .nil
  | i :: r => .cons (.int i) (dpInts r)
theorem canInts : ∀ ns : List Int, PyData.canLayAll0 (ns.map PyData.int) = true
  | [] => rfl
  | i :: r => by
    show (PyData.canLay0 (.int i) && PyData.canLayAll0 (r.map PyData.int)) = true
    rw [canInts r]
    rfl
theorem depInts : ∀ ns : List Int, PyData.depthAll (ns.map PyData.int) = 0
  | [] => rfl
  | i :: r => by
    show max 0 (PyData.depthAll (r.map PyData.int)) = 0
    rw [depInts r]
    rfl
theorem eqvInts : ∀ xs ys : List Int, PyData.eqvAll (xs.map PyData.int) (ys.map PyData.int) = decide (xs = ys)
  | [], [] => by simp [PyData.eqvAll]
  | [], _ :: _ => by simp [PyData.eqvAll]
  | _ :: _, [] => by simp [PyData.eqvAll]
  | x :: xs, y :: ys => by
    rw [List.map_cons, List.map_cons, PyData.eqvAll, eqvInts xs ys, PyData.eqv]
    by_cases h : x = y
    · subst h
      by_cases h2 : xs = ys <;> simp [h2]
    · simp [h]
theorem cut1 (xs : List V) : cutV xs (some 1) none = xs.tail := by
  unfold cutV
  rw [show (some (1 : Int)) = some ((1 : Nat) : Int) from rfl, HT.sIx_nat]
  show List.take (xs.length - min 1 xs.length) (List.drop (min 1 xs.length) xs) = _
  cases xs with
  | nil => rfl
  | cons x r =>
    rw [show min 1 (x :: r).length = 1 by rw [List.length_cons]; omega]
    show List.take (r.length + 1 - 1) r = r
    rw [List.take_of_length_le (by omega)]
theorem lenApp (a b : Str) : (a ++ b).length = a.length + b.length := Array.size_append
def Rai (E : XK) (C : Addr) (H : Hp) (fs : List (Str × V)) : Prop := ∀ d H', Same H H' → H' d = some (.xd fs) → E (.ref C) (some d) H'
theorem Rai.same {E : XK} {C : Addr} {H H1 : Hp} {fs : List (Str × V)} (h : Rai E C H fs) (s : Same H H1) : Rai E C H1 fs := fun d H' s' e => h d H' (s.trans s') e
theorem xsame {H1 : Hp} {a dx : Addr} {H2 : Hp} {o : HO} (na : H1 a = none) (nd : H1 dx = none) (k : ∀ b, b ≠ a → b ≠ dx → H2 b = H1 b) : Same H1 (upd (del H2 a) dx o) := fun b x e => by
  have h1 := ne_of_none e na
  have h2 := ne_of_none e nd
  rw [upd_ne h2, del_ne h1, k b h1 h2]
  exact e
def ForR (J : It) (g : TG) (tb : TS) (D : Ends) (σ : L2.St) (H : Hp) : Prop := ∃ W : Nat → Nat → L2.St → Hp → Prop, (∃ m, W 0 m σ H) ∧ ∀ i m σ H, W i m σ H →
  (J.stop i H ∧ D.nx σ H) ∨ (J.go i H ∧ ∃ N : L2.St → Hp → Prop, (∀ σ' H', N σ' H' → ∃ m', m' < m ∧ W (i + 1) m' σ' H') ∧ ∀ x H', J.yld i H x H' → g x σ H' fun σ2 H2 => tb { nx := N, rt := D.rt, bk := D.nx, ct := N } σ2 H2)
theorem forGen {J : It} {n : Nat} {g : TG} {tb : TS} {D : Ends} {σ : L2.St} {H : Hp} (Pv : Nat → L2.St → Hp → Prop) (h0 : Pv 0 σ H) (go : ∀ i σ H, i < n → Pv i σ H → J.go i H) (stop : ∀ σ H, Pv n σ H → J.stop n H)
    (turn : ∀ i x σ H H', i < n → Pv i σ H → J.yld i H x H' → g x σ H' fun σ2 H2 => tb { nx := Pv (i + 1), rt := D.rt, bk := D.nx, ct := Pv (i + 1) } σ2 H2) (done : ∀ σ H, Pv n σ H → D.nx σ H) : ForR J g tb D σ H := by
  refine ⟨fun i m σ H => m = n - i ∧ i ≤ n ∧ Pv i σ H, ⟨n, rfl, Nat.zero_le _, h0⟩, ?_⟩
  rintro i m σ H ⟨rfl, hi, p⟩
  by_cases hlt : i < n
  · exact .inr ⟨go i σ H hlt p, Pv (i + 1), fun σ' H' q => ⟨n - (i + 1), by omega, rfl, hlt, q⟩, fun x H' y => turn i x σ H H' hlt p y⟩
  · have e : i = n := by omega
    subst e
    exact .inl ⟨stop σ H p, done σ H p⟩
theorem forEnum {K : PySem.W.Frag} {a : Addr} {xs : List V} {g : TG} {tb : TS} {D : Ends} {σ : L2.St} {H : Hp} (Pv : Nat → L2.St → Hp → Prop) (hq : Sq H a xs) (h0 : Pv 0 σ H) (hl : ∀ i σ H' o, Pv i σ H' → H a = some o → H' a = some o)
    (turn : ∀ i x T σ H, xs[i]? = some x → Pv i σ H → H T = none → g (.ref T) σ (upd H T (.tup [.int (i : Nat), x])) fun σ2 H2 => tb { nx := Pv (i + 1), rt := D.rt, bk := D.nx, ct := Pv (i + 1) } σ2 H2) (done : ∀ σ H, Pv xs.length σ H → D.nx σ H) :
    (SqL K H a xs ∧ ForR (Ite K a) g tb D σ H) ∨ (SqT K H a xs ∧ ForR (IteT K a) g tb D σ H) := by
  rcases hq with hq | hq
  · refine .inl ⟨sqL hq, forGen (n := xs.length) Pv h0 (fun i σ H h p => ⟨xs, xs[i], sqL (hl _ _ _ _ p hq), List.getElem?_eq_getElem h⟩) (fun σ H p => ⟨xs, sqL (hl _ _ _ _ p hq), Nat.le_refl _⟩) (fun i x σ H H' hi p y => ?_) done⟩
    obtain ⟨T, x, rfl, nT, rfl, hx⟩ := y
    exact turn i x T σ H (hx xs (sqL (hl _ _ _ _ p hq))) p nT
  · refine .inr ⟨sqT hq, forGen (n := xs.length) Pv h0 (fun i σ H h p => ⟨xs, xs[i], sqT (hl _ _ _ _ p hq), List.getElem?_eq_getElem h⟩) (fun σ H p => ⟨xs, sqT (hl _ _ _ _ p hq), rfl⟩) (fun i x σ H H' hi p y => ?_) done⟩
    obtain ⟨T, x, rfl, nT, rfl, hx⟩ := y
    exact turn i x T σ H (hx xs (sqT (hl _ _ _ _ p hq))) p nT
theorem paired_get {α β : Type} {F : α → β → Prop} {xs : List α} {ys : List β} (p : Paired F xs ys) : ∀ {i : Nat} {x : α}, xs[i]? = some x → ∃ y, ys[i]? = some y ∧ F x y := by
  induction p with
  | nil => intro i x h; simp at h
  | cons f r ih =>
    intro i x h
    cases i with
    | zero =>
      simp at h
      subst h
      exact ⟨_, rfl, f⟩
    | succ i => exact ih h
theorem paired_imp {α β : Type} {F G : α → β → Prop} (k : ∀ x y, F x y → G x y) : ∀ {xs : List α} {ys : List β}, Paired F xs ys → Paired G xs ys
  | _, _, .nil => .nil
  | _, _, .cons f r => .cons (k _ _ f) (paired_imp k r)
theorem drop_get {α : Type} {xs : List α} {i : Nat} {x : α} (h : xs[i]? = some x) : xs.drop i = x :: xs.drop (i + 1) := by
  obtain ⟨hi, rfl⟩ := List.getElem?_eq_some_iff.mp h
  exact List.drop_eq_getElem_cons hi
theorem take_get {α : Type} {xs : List α} {i : Nat} {x : α} (h : xs[i]? = some x) : xs.take (i + 1) = xs.take i ++ [x] := by
  rw [List.take_succ, h]
  rfl
def nts (ns : List Nat) : List V := ns.map fun (n : Nat) => V.int (n : Int)
theorem nts_len (l : List Nat) : (nts l).length = l.length := List.length_map _
def PairsAt (H : Hp) (ts : List V) (ps : List (Nat × Nat)) : Prop := Paired (fun t (p : Nat × Nat) => ∃ T, t = .ref T ∧ H T = some (.tup [.int (p.1 : Nat), .int (p.2 : Nat)])) ts ps
theorem PairsAt.same {H H' : Hp} {ts : List V} {ps : List (Nat × Nat)} (h : PairsAt H ts ps) (s : Same H H') : PairsAt H' ts ps := paired_imp (fun _ _ ⟨T, e, h⟩ => ⟨T, e, s _ _ h⟩) h
theorem paired_snoc {α β : Type} {F : α → β → Prop} {xs : List α} {ys : List β} {x : α} {y : β} (p : Paired F xs ys) (f : F x y) : Paired F (xs ++ [x]) (ys ++ [y]) := by
  induction p with
  | nil => exact .cons f .nil
  | cons g r ih => exact .cons g ih
def leP (p q : Nat × Nat) : Bool := decide (p.1 < q.1 ∨ (p.1 = q.1 ∧ p.2 ≤ q.2))
def sortP (l : List (Nat × Nat)) : List (Nat × Nat) := l.mergeSort leP
theorem leP_trans (a b c : Nat × Nat) (h1 : leP a b = true) (h2 : leP b c = true) : leP a c = true := by
  unfold leP at *
  rw [decide_eq_true_iff] at *
  omega
theorem leP_total (a b : Nat × Nat) : (leP a b || leP b a) = true := by
  unfold leP
  rw [Bool.or_eq_true, decide_eq_true_iff, decide_eq_true_iff]
  omega
theorem leP_anti {a b : Nat × Nat} (h1 : leP a b = true) (h2 : leP b a = true) : a = b := by
  unfold leP at *
  rw [decide_eq_true_iff] at *
  exact Prod.ext (by omega) (by omega)
theorem sortP_perm (l : List (Nat × Nat)) : (sortP l).Perm l := List.mergeSort_perm l leP
theorem sortP_sorted (l : List (Nat × Nat)) : (sortP l).Pairwise fun a b => leP a b = true := List.pairwise_mergeSort leP_trans leP_total l
theorem sortP_eq {l m : List (Nat × Nat)} (p : m.Perm l) (s : m.Pairwise fun a b => leP a b = true) : m = sortP l :=
  List.Perm.eq_of_pairwise (fun a b _ _ h1 h2 => leP_anti h1 h2) s (sortP_sorted l) (p.trans (sortP_perm l).symm)
def kOf (H : Hp) : V → Int × Int
  | .ref T => match H T with
    | some (.tup [.int i, .int j]) => (i, j)
    | _ => (0, 0)
  | _ => (0, 0)
def kNat (H : Hp) (x : V) : Nat × Nat := ((kOf H x).1.toNat, (kOf H x).2.toNat)
theorem kOf_pair {H : Hp} {T : Addr} {i j : Int} (h : H T = some (.tup [.int i, .int j])) : kOf H (.ref T) = (i, j) := by
  simp only [kOf, h]
theorem pairs_map {H : Hp} {ts : List V} {ps : List (Nat × Nat)} (p : PairsAt H ts ps) : ps = ts.map (kNat H) := by
  induction p with
  | nil => rfl
  | cons f r ih =>
    obtain ⟨T, rfl, h⟩ := f
    rw [List.map_cons, ← ih]
    refine congrArg (· :: _) ?_
    unfold kNat
    rw [kOf_pair h]
    rfl
theorem pairs_mem {H : Hp} {ts : List V} {ps : List (Nat × Nat)} (p : PairsAt H ts ps) : ∀ x ∈ ts, ∃ T, x = .ref T ∧ H T = some (.tup [.int ((kNat H x).1 : Nat), .int ((kNat H x).2 : Nat)]) := by
  induction p with
  | nil => exact fun x h => absurd h (by simp)
  | cons f r ih =>
    intro x hx
    rcases List.mem_cons.mp hx with e | hx
    · obtain ⟨T, e2, h⟩ := f
      subst e2
      subst e
      refine ⟨T, rfl, ?_⟩
      unfold kNat
      rw [kOf_pair h]
      exact h
    · exact ih x hx
theorem paired_self {α β : Type} {F : α → β → Prop} {f : α → β} : ∀ {xs : List α}, (∀ x ∈ xs, F x (f x)) → Paired F xs (xs.map f)
  | [], _ => .nil
  | x :: r, h => .cons (h x List.mem_cons_self) (paired_self fun y hy => h y (List.mem_cons_of_mem _ hy))
theorem sorted_pairs {H : Hp} {xs ys : List V} {ps : List (Nat × Nat)} (p : PairsAt H xs ps) (st : SrtO.Srtd (ltP (kOf H)) ys) (sb : SrtO.Stb (ltP (kOf H)) ys xs) : PairsAt H ys (sortP ps) := by
  have hm := pairs_mem p
  have hy : ∀ y ∈ ys, ∃ T, y = .ref T ∧ H T = some (.tup [.int ((kNat H y).1 : Nat), .int ((kNat H y).2 : Nat)]) := fun y h => hm y (sb.perm.mem_iff.mp h)
  have e : ys.map (kNat H) = sortP ps := by
    refine sortP_eq ?_ ?_
    · rw [pairs_map p]
      exact sb.perm.map _
    · rw [List.pairwise_map]
      refine (List.Pairwise.and_mem.mp st).imp fun h => ?_
      obtain ⟨ha, hb, hlt⟩ := h
      obtain ⟨T, rfl, h1⟩ := hy _ ha
      obtain ⟨U, rfl, h2⟩ := hy _ hb
      have h1 := kOf_pair h1
      have h2 := kOf_pair h2
      unfold ltP SrtO.lexB at hlt
      rw [h1, h2] at hlt
      unfold leP
      rw [decide_eq_true_iff]
      simp at hlt
      split at hlt <;> omega
  rw [← e]
  exact paired_self hy
theorem rIx_sq {K : PySem.W.Frag} {H : Hp} {a : Addr} {xs : List V} {i : Nat} {k : Int} {x : V} {Q : VK} (h : Sq H a xs) (hk : k = (i : Int)) (hx : xs[i]? = some x) (q : Q x H) : rIx K (.ref a) (.int k) H Q := by
  subst hk
  rcases h with h | h
  · exact .inl ⟨a, xs, _, x, rfl, rfl, sqL h, atI_nat hx, q⟩
  · exact .inr (.inl ⟨a, xs, _, x, rfl, rfl, sqT h, atI_nat hx, q⟩)
theorem iteFq {b : Bool} {A B : Prop} (h : b = false) (x : B) : if b = true then A else B := by
  subst h
  exact x
theorem iteTq {b : Bool} {A B : Prop} (h : b = true) (x : A) : if b = true then A else B := by
  subst h
  exact x
theorem forSeq {K : PySem.W.Frag} {a : Addr} {xs : List V} {g : TG} {tb : TS} {D : Ends} {σ : L2.St} {H : Hp} (Pv : Nat → L2.St → Hp → Prop) (hq : Sq H a xs) (h0 : Pv 0 σ H) (hl : ∀ i σ H' o, Pv i σ H' → H a = some o → H' a = some o)
    (turn : ∀ i x σ H, xs[i]? = some x → Pv i σ H → g x σ H fun σ2 H2 => tb { nx := Pv (i + 1), rt := D.rt, bk := D.nx, ct := Pv (i + 1) } σ2 H2) (done : ∀ σ H, Pv xs.length σ H → D.nx σ H) :
    (SqL K H a xs ∧ ForR (Itl K a) g tb D σ H) ∨ (SqT K H a xs ∧ ForR (Itt K a) g tb D σ H) := by
  rcases hq with hq | hq
  · exact .inl ⟨sqL hq, for_list (K := K) (xs := xs) Pv h0 (fun i σ H' _ p => sqL (hl _ _ _ _ p hq)) turn done⟩
  · exact .inr ⟨sqT hq, for_tup (K := K) (xs := xs) Pv h0 (fun i σ H' _ p => sqT (hl _ _ _ _ p hq)) turn done⟩
theorem lenV_sq {K : PySem.W.Frag} {H : Hp} {a : Addr} {xs : List V} {n : Nat} (h : Sq H a xs) (e : xs.length = n) : LenV K (.ref a) H n := h.elim (fun z => .inl ⟨_, sqL z, e.symm⟩) fun z => .inr ⟨_, sqT z, e.symm⟩
theorem none_of_same {H H' : Hp} {l : Addr} (s : Same H H') (n : H' l = none) : H l = none := by
  cases e : H l with
  | none => rfl
  | some o =>
    rw [s _ _ e] at n
    cases n
theorem range_map_get {α : Type} (l : List α) (d : α) : (List.range l.length).map (fun i => l.getD i d) = l := by
  refine List.ext_getElem (by rw [List.length_map, List.length_range]) fun i h1 h2 => ?_
  rw [List.getElem_map, List.getElem_range, List.getD_eq_getElem?_getD, List.getElem?_eq_getElem h2]
  rfl
theorem getD_at {α : Type} {l : List α} {i : Nat} {x d : α} (h : l[i]? = some x) : l.getD i d = x := by
  rw [List.getD_eq_getElem?_getD, h]
  rfl
def TupT (H : Hp) (x : V) (vs : List V) : Prop := ∃ a, x = .ref a ∧ H a = some (.tup vs)
theorem TupT.same {H H' : Hp} {x : V} {vs : List V} (s : Same H H') (h : TupT H x vs) : TupT H' x vs := by
  obtain ⟨a, e, q⟩ := h
  exact ⟨a, e, s _ _ q⟩
def TupsT (H : Hp) (ts : List V) (ls : List (List V)) : Prop := Paired (TupT H) ts ls
theorem TupsT.same {H H' : Hp} {ts : List V} {ls : List (List V)} (s : Same H H') (h : TupsT H ts ls) : TupsT H' ts ls := paired_imp (fun _ _ h => h.same s) h
theorem tups_upd {H : Hp} {D : Addr} {o : HO} {ts us : List V} {l : List (List V)} (eD : H D = some (.lst us)) (p : TupsT H ts l) : TupsT (upd H D o) ts l := paired_imp (fun x c ⟨a, e, h⟩ => ⟨a, e, by rw [upd_ne (fun z => by rw [z, eD] at h; cases h)]; exact h⟩) p
theorem tup_upd {H : Hp} {D : Addr} {o : HO} {x : V} {us c : List V} (eD : H D = some (.lst us)) (p : TupT H x c) : TupT (upd H D o) x c := by
  obtain ⟨a, e, h⟩ := p
  exact ⟨a, e, by rw [upd_ne (fun z => by rw [z, eD] at h; cases h)]; exact h⟩
theorem lcTupK {J : It} {n : Nat} {g : TG} {tt : TT} {te : TE} {vs : List Nat} {σ : L2.St} {H1 : Hp} {D : Addr} {Qd : Hp → Prop} (keep : Nat → Bool) (cs : Nat → List V) (nD : H1 D = none) (hn : n ≤ 4000) (go : ∀ i H, i < n → Same H1 H → J.go i H) (stop : ∀ H, Same H1 H → J.stop n H)
    (turn : ∀ i x H H' (Qk : VK) (Qn : Hp → Prop), i < n → Same H1 H → J.yld i H x H' → (∀ y H4, keep i = true → TupT H4 y (cs i) → Same H H4 → Qk y H4) → (∀ H4, keep i = false → Same H H4 → Qn H4) → g x (wipe σ vs) H' fun σ2 H2 => wipe σ2 vs = wipe σ vs ∧ tt σ2 H2 fun b H3 => if b = true then te σ2 H3 Qk else Qn H3)
    (done : ∀ H ts, Same H1 H → H D = some (.lst ts) → TupsT H ts (((List.range n).filter keep).map cs) → Qd H) :
    ∃ W : Nat → Nat → Hp → Prop, (∃ m, W 0 m (upd H1 D (.lst []))) ∧ ∀ i m H, W i m H →
      (J.stop i H ∧ Qd H) ∨ (J.go i H ∧ ∃ Nx : Hp → Prop, (∀ H', Nx H' → ∃ m', m' < m ∧ W (i + 1) m' H') ∧ ∀ x H', J.yld i H x H' → g x (wipe σ vs) H' fun σ2 H2 => wipe σ2 vs = wipe σ vs ∧ tt σ2 H2 fun b H3 =>
        if b = true then te σ2 H3 fun y H4 => ∃ acc, H4 D = some (.lst acc) ∧ acc.length < sizeLine ∧ Nx (upd H4 D (.lst (acc ++ [y]))) else Nx H3) := by
  refine ⟨fun i m H => m = n - i ∧ i ≤ n ∧ Same H1 H ∧ ∃ ts, H D = some (.lst ts) ∧ TupsT H ts (((List.range i).filter keep).map cs), ⟨n, rfl, Nat.zero_le _, same_upd nD, [], upd_same, .nil⟩, ?_⟩
  rintro i m H ⟨rfl, hi, sm, ts, eD, pt⟩
  by_cases hlt : i < n
  · refine .inr ⟨go i H hlt sm, fun H' => Same H1 H' ∧ ∃ ts, H' D = some (.lst ts) ∧ TupsT H' ts (((List.range (i + 1)).filter keep).map cs), fun H' p => ⟨n - (i + 1), by omega, rfl, hlt, p.1, p.2⟩, fun x H' y => ?_⟩
    refine turn i x H H' _ _ hlt sm y (fun y H4 hk eT s4 => ⟨ts, s4 _ _ eD, ?_, fun b o e => ?_, _, upd_same, ?_⟩) (fun H4 hk s4 => ⟨sm.trans s4, ts, s4 _ _ eD, ?_⟩)
    · have h1 := pt.length
      have h2 := List.length_filter_le keep (List.range i)
      rw [List.length_map] at h1
      rw [List.length_range] at h2
      rw [sizeLine_eq]
      omega
    · rw [upd_ne (ne_of_none e nD)]
      exact s4 _ _ (sm _ _ e)
    · rw [List.range_succ, List.filter_append, List.filter_cons_of_pos hk, List.map_append]
      exact paired_snoc (tups_upd (s4 _ _ eD) (pt.same s4)) (tup_upd (s4 _ _ eD) eT)
    · rw [List.range_succ, List.filter_append, List.filter_cons_of_neg (by rw [hk]; exact Bool.false_ne_true), List.filter_nil, List.append_nil]
      exact pt.same s4
  · have e : i = n := by omega
    subst e
    exact .inl ⟨stop H sm, done H ts sm eD pt⟩
theorem tups_got {H : Hp} {ts : List V} {ls : List (List V)} (p : TupsT H ts ls) {i : Nat} {x : V} (h : ts[i]? = some x) : ∃ vs a, ls[i]? = some vs ∧ x = .ref a ∧ H a = some (.tup vs) := by
  obtain ⟨vs, hv, a, e, ha⟩ := paired_get p h
  exact ⟨vs, a, hv, e, ha⟩
theorem cut_to (xs : List V) (m : Nat) : cutV xs none (some (m : Int)) = xs.take m := by
  unfold cutV
  rw [HT.sIx_nat, show HT.sIx xs.length 0 none = 0 from rfl, Nat.sub_zero, List.drop_zero]
  by_cases h : m ≤ xs.length
  · rw [Nat.min_eq_left h]
  · rw [Nat.min_eq_right (by omega), List.take_of_length_le (Nat.le_refl _), List.take_of_length_le (by omega)]
theorem cut_from (xs : List V) (m : Nat) : cutV xs (some (m : Int)) none = xs.drop m := by
  unfold cutV
  rw [HT.sIx_nat, show HT.sIx xs.length xs.length none = xs.length from rfl]
  by_cases h : m ≤ xs.length
  · rw [Nat.min_eq_left h, List.take_of_length_le (by rw [List.length_drop]; exact Nat.le_refl _)]
  · rw [Nat.min_eq_right (by omega), List.drop_eq_nil_of_le (Nat.le_refl _), List.drop_eq_nil_of_le (show xs.length ≤ m by omega), List.take_nil]
theorem slA {K : PySem.W.Frag} {H : Hp} {a : Addr} {xs : List V} {lo hi : Option Int} {Q : VK} (h : H a = some (.tup xs)) (q : ∀ p H', Same H H' → H' p = some (.tup (cutV xs lo hi)) → Q (.ref p) H') : rSlA K (.ref a) lo hi H Q := by
  refine ⟨a, xs, rfl, sqT h, fun z => q a H (Same.refl _) ?_, fun _ p np => q p _ (same_upd np) upd_same⟩
  rw [h]
  unfold cutV
  rw [z.1, z.2, List.drop_zero, Nat.sub_zero, List.take_of_length_le (Nat.le_refl _)]
theorem catA {K : PySem.W.Frag} {H : Hp} {a b : Addr} {xs ys : List V} {Q : VK} (ha : H a = some (.tup xs)) (hb : H b = some (.tup ys)) (hl : xs.length + ys.length ≤ 1000) (q : ∀ p H', Same H H' → H' p = some (.tup (xs ++ ys)) → Q (.ref p) H') : rCatA K (.ref a) (.ref b) H Q := by
  refine ⟨a, b, xs, ys, rfl, rfl, sqT ha, sqT hb, by rw [sizeLine_eq]; omega, fun z => q b H (Same.refl _) ?_, fun _ z => q a H (Same.refl _) ?_, fun _ _ p np => q p _ (same_upd np) upd_same⟩
  · rw [hb, z, List.nil_append]
  · rw [ha, z, List.append_nil]
theorem paired_take {α β : Type} {F : α → β → Prop} {xs : List α} {ys : List β} (p : Paired F xs ys) : ∀ k, Paired F (xs.take k) (ys.take k) ∧ Paired F (xs.drop k) (ys.drop k) := by
  induction p with
  | nil => intro k; rw [List.take_nil, List.take_nil, List.drop_nil, List.drop_nil]; exact ⟨.nil, .nil⟩
  | cons f r ih =>
    intro k
    cases k with
    | zero => exact ⟨.nil, .cons f r⟩
    | succ k => exact ⟨.cons f (ih k).1, (ih k).2⟩
theorem paired_app {α β : Type} {F : α → β → Prop} {xs xs' : List α} {ys ys' : List β} (p : Paired F xs ys) (q : Paired F xs' ys') : Paired F (xs ++ xs') (ys ++ ys') := by
  induction p with
  | nil => exact q
  | cons f _ ih => exact .cons f ih
theorem lcPred {J : It} {n : Nat} {g : TG} {tt : TT} {te : TE} {vs : List Nat} {σ : L2.St} {H1 : Hp} {D : Addr} {Qd : Hp → Prop} (keep : Nat → Bool) (T : Nat → Hp → V → Prop) (hst : ∀ i H H' x, Same H H' → T i H x → T i H' x) (hup : ∀ i H x us ys, H D = some (.lst us) → T i H x → T i (upd H D (.lst ys)) x)
    (nD : H1 D = none) (hn : n ≤ 4000) (go : ∀ i H, i < n → Same H1 H → J.go i H) (stop : ∀ H, Same H1 H → J.stop n H)
    (turn : ∀ i x H H' (Qk : VK) (Qn : Hp → Prop), i < n → Same H1 H → (∃ us, H D = some (.lst us)) → J.yld i H x H' → (∀ y H4, keep i = true → T i H4 y → Same H H4 → Qk y H4) → (∀ H4, keep i = false → Same H H4 → Qn H4) → g x (wipe σ vs) H' fun σ2 H2 => wipe σ2 vs = wipe σ vs ∧ tt σ2 H2 fun b H3 => if b = true then te σ2 H3 Qk else Qn H3)
    (done : ∀ H ts, Same H1 H → H D = some (.lst ts) → Paired (fun x i => T i H x) ts ((List.range n).filter keep) → Qd H) :
    ∃ W : Nat → Nat → Hp → Prop, (∃ m, W 0 m (upd H1 D (.lst []))) ∧ ∀ i m H, W i m H →
      (J.stop i H ∧ Qd H) ∨ (J.go i H ∧ ∃ Nx : Hp → Prop, (∀ H', Nx H' → ∃ m', m' < m ∧ W (i + 1) m' H') ∧ ∀ x H', J.yld i H x H' → g x (wipe σ vs) H' fun σ2 H2 => wipe σ2 vs = wipe σ vs ∧ tt σ2 H2 fun b H3 =>
        if b = true then te σ2 H3 fun y H4 => ∃ acc, H4 D = some (.lst acc) ∧ acc.length < sizeLine ∧ Nx (upd H4 D (.lst (acc ++ [y]))) else Nx H3) := by
  refine ⟨fun i m H => m = n - i ∧ i ≤ n ∧ Same H1 H ∧ ∃ ts, H D = some (.lst ts) ∧ Paired (fun x i => T i H x) ts ((List.range i).filter keep), ⟨n, rfl, Nat.zero_le _, same_upd nD, [], upd_same, .nil⟩, ?_⟩
  rintro i m H ⟨rfl, hi, sm, ts, eD, pt⟩
  by_cases hlt : i < n
  · refine .inr ⟨go i H hlt sm, fun H' => Same H1 H' ∧ ∃ ts, H' D = some (.lst ts) ∧ Paired (fun x i => T i H' x) ts ((List.range (i + 1)).filter keep), fun H' p => ⟨n - (i + 1), by omega, rfl, hlt, p.1, p.2⟩, fun x H' y => ?_⟩
    refine turn i x H H' _ _ hlt sm ⟨ts, eD⟩ y (fun y H4 hk eT s4 => ⟨ts, s4 _ _ eD, ?_, fun b o e => ?_, _, upd_same, ?_⟩) (fun H4 hk s4 => ⟨sm.trans s4, ts, s4 _ _ eD, ?_⟩)
    · have h1 := pt.length
      have h2 := List.length_filter_le keep (List.range i)
      rw [List.length_range] at h2
      rw [sizeLine_eq]
      omega
    · rw [upd_ne (ne_of_none e nD)]
      exact s4 _ _ (sm _ _ e)
    · rw [List.range_succ, List.filter_append, List.filter_cons_of_pos hk]
      exact paired_snoc (paired_imp (fun x i h => hup i _ x _ _ (s4 _ _ eD) (hst i _ _ x s4 h)) pt) (hup i _ y _ _ (s4 _ _ eD) eT)
    · rw [List.range_succ, List.filter_append, List.filter_cons_of_neg (by rw [hk]; exact Bool.false_ne_true), List.filter_nil, List.append_nil]
      exact paired_imp (fun x i h => hst i _ _ x s4 h) pt
  · have e : i = n := by omega
    subst e
    exact .inl ⟨stop H sm, done H ts sm eD pt⟩
theorem paired_map {α β γ : Type} {F : α → γ → Prop} {g : β → γ} {xs : List α} {ys : List β} (p : Paired (fun x y => F x (g y)) xs ys) : Paired F xs (ys.map g) := by
  induction p with
  | nil => exact .nil
  | cons f _ ih => exact .cons f ih
theorem nts_snoc (l : List Nat) {x : Int} (h : 0 ≤ x) : nts l ++ [.int x] = nts (l ++ [x.toNat]) := by
  unfold nts
  rw [List.map_append, List.map_singleton, Int.toNat_of_nonneg h]
theorem fmod_nn {a b : Int} (ha : 0 ≤ a) (hb : 0 < b) : 0 ≤ a.fmod b ∧ a.fmod b < b := ⟨Int.fmod_nonneg_of_pos a hb, Int.fmod_lt_of_pos a hb⟩
theorem fdiv_nn {a b : Int} (ha : 0 ≤ a) (hb : 0 < b) : 0 ≤ a.fdiv b ∧ a.fdiv b ≤ a := by
  rw [Int.fdiv_eq_ediv_of_nonneg a (by omega)]
  exact ⟨Int.ediv_nonneg ha (by omega), Int.ediv_le_self b ha⟩
def NumsAt (H : Hp) (a : Addr) : Prop := ∃ l : List Nat, H a = some (.lst (nts l)) ∧ l.length ≤ 4000
def SameB (a : Addr) (H H' : Hp) : Prop := ∀ b o, b ≠ a → H b = some o → H' b = some o
theorem SameB.trans {a : Addr} {H1 H2 H3 : Hp} (h : SameB a H1 H2) (k : SameB a H2 H3) : SameB a H1 H3 := fun b o n e => k b o n (h b o n e)
theorem SameB.refl {a : Addr} {H : Hp} : SameB a H H := fun _ _ _ e => e
theorem sameB_of {a : Addr} {H1 H2 : Hp} (h : Same H1 H2) : SameB a H1 H2 := fun b o _ e => h b o e
theorem NumsAt.same {H H' : Hp} {a : Addr} (h : NumsAt H a) (s : Same H H') : NumsAt H' a := by
  obtain ⟨l, e, n⟩ := h
  exact ⟨l, s _ _ e, n⟩
theorem nums_ne {H : Hp} {a l : Addr} (n : NumsAt H a) (h : H l = none) : l ≠ a := fun z => by
  obtain ⟨x, e, _⟩ := n
  rw [z, e] at h
  cases h
theorem none_of_b {a l : Addr} {H H' : Hp} (s : SameB a H H') (n : NumsAt H' a) (h : H' l = none) : H l = none := by
  cases e : H l with
  | none => rfl
  | some o =>
    rw [s _ _ (nums_ne n h) e] at h
    cases h
theorem nums_upd {H : Hp} {a F : Addr} {o : HO} (n : NumsAt H a) (h : F ≠ a) : NumsAt (upd H F o) a := by
  obtain ⟨l, e, n⟩ := n
  exact ⟨l, by rw [upd_ne h.symm]; exact e, n⟩
theorem pick {K : PySem.W.Frag} {H : Hp} {L : Addr} {ms : List Nat} {r : Nat} {Q : VK} (e : H L = some (.lst (nts ms))) (hr : r < ms.length) (q : ∀ v, v ∈ ms → Q (.int (v : Nat)) H) : rIxL K (.ref L) (.int (r : Nat)) H Q := by
  refine ⟨L, _, r, .int (ms[r] : Nat), rfl, rfl, sqL e, atI_nat ?_, q _ (List.getElem_mem hr)⟩
  unfold nts
  rw [List.getElem?_map, List.getElem?_eq_getElem hr]
  rfl
def rTupOf (K : PySem.W.Frag) : List V → Hp → VK → Prop := fun xs H Q => ∃ p ys, xs = [.ref p] ∧ ((SqL K H p ys ∧ ∀ l, H l = none → Q (.ref l) (upd H l (.tup ys))) ∨ (SqT K H p ys ∧ Q (.ref p) H))
def rListOf (K : PySem.W.Frag) : List V → Hp → VK → Prop := fun xs H Q => ∃ p ys, xs = [.ref p] ∧ (SqL K H p ys ∨ SqT K H p ys) ∧ ∀ l, H l = none → Q (.ref l) (upd H l (.lst ys))
theorem tupOf {K : PySem.W.Frag} {H : Hp} {a : Addr} {xs : List V} {Q : VK} (h : Sq H a xs) (q : ∀ p H', Same H H' → H' p = some (.tup xs) → Q (.ref p) H') : rTupOf K [.ref a] H Q := by
  rcases h with h | h
  · exact ⟨a, xs, rfl, .inl ⟨sqL h, fun l nl => q l _ (same_upd nl) upd_same⟩⟩
  · exact ⟨a, xs, rfl, .inr ⟨sqT h, q a H (Same.refl _) h⟩⟩
theorem listOf {K : PySem.W.Frag} {H : Hp} {a : Addr} {xs : List V} {Q : VK} (h : Sq H a xs) (q : ∀ p H', Same H H' → H p = none → H' p = some (.lst xs) → Q (.ref p) H') : rListOf K [.ref a] H Q :=
  ⟨a, xs, rfl, h.elim (fun z => .inl (sqL z)) (fun z => .inr (sqT z)), fun l nl => q l _ (same_upd nl) nl upd_same⟩
/-- as LcR, what follows told of the new list's address: it is found by unification -/
def LcD (J : It) (g : TG) (tt : TT) (te : TE) (vs : List Nat) (σ : L2.St) (H1 : Hp) (Q : Addr → Hp → Prop) : Prop := ∀ D, H1 D = none → ∃ W : Nat → Nat → Hp → Prop, (∃ m, W 0 m (upd H1 D (.lst []))) ∧ ∀ i m H, W i m H →
  (J.stop i H ∧ Q D H) ∨ (J.go i H ∧ ∃ Nx : Hp → Prop, (∀ H', Nx H' → ∃ m', m' < m ∧ W (i + 1) m' H') ∧ ∀ x H', J.yld i H x H' → g x (wipe σ vs) H' fun σ2 H2 => wipe σ2 vs = wipe σ vs ∧ tt σ2 H2 fun b H3 =>
    if b = true then te σ2 H3 fun y H4 => ∃ acc, H4 D = some (.lst acc) ∧ acc.length < sizeLine ∧ Nx (upd H4 D (.lst (acc ++ [y]))) else Nx H3)
/-- [e for x in xs], xs a list; what is made is told by a predicate -/
theorem lcLst {K : PySem.W.Frag} {a : Addr} {xs : List V} {g : TG} {te : TE} {vs : List Nat} {σ : L2.St} {H1 : Hp} {Q : Addr → Hp → Prop} (T : Nat → Hp → V → Prop) (hst : ∀ i H H' x, Same H H' → T i H x → T i H' x)
    (hup : ∀ D i H x us ys, H D = some (.lst us) → H1 D = none → T i H x → T i (upd H D (.lst ys)) x) (hq : H1 a = some (.lst xs)) (hn : xs.length ≤ 4000)
    (turn : ∀ (D : Addr) (i : Nat) (x : V) (H : Hp) (Qk : VK) (Qn : Hp → Prop), xs[i]? = some x → Same H1 H → H1 D = none → (∃ us, H D = some (.lst us)) → (∀ y H4, T i H4 y → Same H H4 → Qk y H4) → g x (wipe σ vs) H fun σ2 H2 => wipe σ2 vs = wipe σ vs ∧ tYes σ2 H2 fun b H3 => if b = true then te σ2 H3 Qk else Qn H3)
    (done : ∀ D H ts, H1 D = none → Same H1 H → H D = some (.lst ts) → Paired (fun x i => T i H x) ts (List.range xs.length) → Q D H) : LcD (Itl K a) g tYes te vs σ H1 Q := by
  have ef : ∀ n : Nat, (List.range n).filter (fun _ => true) = List.range n := fun n => List.filter_eq_self.mpr (fun _ _ => rfl)
  refine fun D nD => lcPred (n := xs.length) (tt := tYes) (fun _ => true) T hst (fun i H x us ys e h => hup D i H x us ys e nD h) nD hn (fun i H h s => ⟨xs, xs[i], sqL (s _ _ hq), List.getElem?_eq_getElem h⟩) (fun H s => ⟨xs, sqL (s _ _ hq), Nat.le_refl _⟩)
      (fun i x H H' Qk Qn h s eD y hk _ => ?_) (fun H ts s e p => done D H ts nD s e (by rw [ef] at p; exact p))
  obtain ⟨rfl, y⟩ := y
  exact turn D i x _ Qk Qn (y xs (sqL (s _ _ hq))) s nD eD fun y H4 h4 s4 => hk y H4 rfl h4 s4
/-- .. a tuple -/
theorem lcTup {K : PySem.W.Frag} {a : Addr} {xs : List V} {g : TG} {te : TE} {vs : List Nat} {σ : L2.St} {H1 : Hp} {Q : Addr → Hp → Prop} (T : Nat → Hp → V → Prop) (hst : ∀ i H H' x, Same H H' → T i H x → T i H' x)
    (hup : ∀ D i H x us ys, H D = some (.lst us) → H1 D = none → T i H x → T i (upd H D (.lst ys)) x) (hq : H1 a = some (.tup xs)) (hn : xs.length ≤ 4000)
    (turn : ∀ (D : Addr) (i : Nat) (x : V) (H : Hp) (Qk : VK) (Qn : Hp → Prop), xs[i]? = some x → Same H1 H → H1 D = none → (∃ us, H D = some (.lst us)) → (∀ y H4, T i H4 y → Same H H4 → Qk y H4) → g x (wipe σ vs) H fun σ2 H2 => wipe σ2 vs = wipe σ vs ∧ tYes σ2 H2 fun b H3 => if b = true then te σ2 H3 Qk else Qn H3)
    (done : ∀ D H ts, H1 D = none → Same H1 H → H D = some (.lst ts) → Paired (fun x i => T i H x) ts (List.range xs.length) → Q D H) : LcD (Itt K a) g tYes te vs σ H1 Q := by
  have ef : ∀ n : Nat, (List.range n).filter (fun _ => true) = List.range n := fun n => List.filter_eq_self.mpr (fun _ _ => rfl)
  refine fun D nD => lcPred (n := xs.length) (tt := tYes) (fun _ => true) T hst (fun i H x us ys e h => hup D i H x us ys e nD h) nD hn (fun i H h s => ⟨xs, xs[i], sqT (s _ _ hq), List.getElem?_eq_getElem h⟩) (fun H s => ⟨xs, sqT (s _ _ hq), Nat.le_refl _⟩)
      (fun i x H H' Qk Qn h s eD y hk _ => ?_) (fun H ts s e p => done D H ts nD s e (by rw [ef] at p; exact p))
  obtain ⟨rfl, y⟩ := y
  exact turn D i x _ Qk Qn (y xs (sqT (s _ _ hq))) s nD eD fun y H4 h4 s4 => hk y H4 rfl h4 s4
/-- .. a list or a tuple -/
theorem lcSeqP {K : PySem.W.Frag} {a : Addr} {xs : List V} {g : TG} {te : TE} {vs : List Nat} {σ : L2.St} {H1 : Hp} {Q : Addr → Hp → Prop} (T : Nat → Hp → V → Prop) (hst : ∀ i H H' x, Same H H' → T i H x → T i H' x)
    (hup : ∀ D i H x us ys, H D = some (.lst us) → H1 D = none → T i H x → T i (upd H D (.lst ys)) x) (hq : Sq H1 a xs) (hn : xs.length ≤ 4000)
    (turn : ∀ (D : Addr) (i : Nat) (x : V) (H : Hp) (Qk : VK) (Qn : Hp → Prop), xs[i]? = some x → Same H1 H → H1 D = none → (∃ us, H D = some (.lst us)) → (∀ y H4, T i H4 y → Same H H4 → Qk y H4) → g x (wipe σ vs) H fun σ2 H2 => wipe σ2 vs = wipe σ vs ∧ tYes σ2 H2 fun b H3 => if b = true then te σ2 H3 Qk else Qn H3)
    (done : ∀ D H ts, H1 D = none → Same H1 H → H D = some (.lst ts) → Paired (fun x i => T i H x) ts (List.range xs.length) → Q D H) :
    (SqL K H1 a xs ∧ LcD (Itl K a) g tYes te vs σ H1 Q) ∨ (SqT K H1 a xs ∧ LcD (Itt K a) g tYes te vs σ H1 Q) :=
  hq.elim (fun hq => .inl ⟨sqL hq, lcLst T hst hup hq hn turn done⟩) fun hq => .inr ⟨sqT hq, lcTup T hst hup hq hn turn done⟩
/-- [e for i in range(n)]; what is made is told by a predicate -/
theorem lcRngP {n : Nat} {g : TG} {te : TE} {vs : List Nat} {σ : L2.St} {H1 : Hp} {Q : Addr → Hp → Prop} (T : Nat → Hp → V → Prop) (hst : ∀ i H H' x, Same H H' → T i H x → T i H' x)
    (hup : ∀ D i H x us ys, H D = some (.lst us) → H1 D = none → T i H x → T i (upd H D (.lst ys)) x) (hn : n ≤ 4000)
    (turn : ∀ (D : Addr) (i : Nat) (H : Hp) (Qk : VK) (Qn : Hp → Prop), i < n → Same H1 H → H1 D = none → (∃ us, H D = some (.lst us)) → (∀ y H4, T i H4 y → Same H H4 → Qk y H4) → g (.int (i : Nat)) (wipe σ vs) H fun σ2 H2 => wipe σ2 vs = wipe σ vs ∧ tYes σ2 H2 fun b H3 => if b = true then te σ2 H3 Qk else Qn H3)
    (done : ∀ D H ts, H1 D = none → Same H1 H → H D = some (.lst ts) → Paired (fun x i => T i H x) ts (List.range n) → Q D H) : LcD (Itr 0 n) g tYes te vs σ H1 Q := by
  have ef : ∀ n : Nat, (List.range n).filter (fun _ => true) = List.range n := fun n => List.filter_eq_self.mpr (fun _ _ => rfl)
  refine fun D nD => lcPred (n := n) (tt := tYes) (fun _ => true) T hst (fun i H x us ys e h => hup D i H x us ys e nD h) nD hn (fun i H h s => h) (fun H s => Nat.le_refl _)
      (fun i x H H' Qk Qn h s eD y hk _ => ?_) (fun H ts s e p => done D H ts nD s e (by rw [ef] at p; exact p))
  obtain ⟨rfl, rfl⟩ := y
  rw [Int.zero_add]
  exact turn D i _ Qk Qn h s nD eD fun y H4 h4 s4 => hk y H4 rfl h4 s4
theorem paired_eq {α β : Type} {g : β → α} {xs : List α} {ys : List β} (p : Paired (fun x y => x = g y) xs ys) : xs = ys.map g := by
  induction p with
  | nil => rfl
  | cons f _ ih => rw [List.map_cons, f, ih]
theorem map_range_get {α : Type} {f : Nat → α} {xs : List α} (h : ∀ i x, xs[i]? = some x → f i = x) : (List.range xs.length).map f = xs := by
  refine List.ext_getElem? fun i => ?_
  rw [List.getElem?_map]
  by_cases hi : i < xs.length
  · rw [List.getElem?_eq_getElem (by rw [List.length_range]; exact hi), List.getElem_range, List.getElem?_eq_getElem hi]
    exact congrArg some (h i _ (List.getElem?_eq_getElem hi))
  · rw [List.getElem?_eq_none (by rw [List.length_range]; omega), List.getElem?_eq_none (by omega)]
    rfl
theorem atI_end (xs : List V) (v : V) : atI (xs ++ [v]) (-1) = some v := by
  unfold atI ixN
  rw [if_neg (by omega), if_pos (by rw [List.length_append, List.length_singleton]; omega)]
  show (xs ++ [v])[((-1 : Int) + ((xs ++ [v]).length : Int)).toNat]? = some v
  rw [List.length_append, List.length_singleton, show ((-1 : Int) + ((xs.length + 1 : Nat) : Int)).toNat = xs.length by omega, List.getElem?_append_right (Nat.le_refl _), Nat.sub_self]
  rfl
/-- [e for i, x in enumerate(xs)], xs a tuple -/
theorem lcEnT {K : PySem.W.Frag} {a : Addr} {xs : List V} {g : TG} {te : TE} {vs : List Nat} {σ : L2.St} {H1 : Hp} {Q : Addr → Hp → Prop} (T : Nat → Hp → V → Prop) (hst : ∀ i H H' x, Same H H' → T i H x → T i H' x)
    (hup : ∀ D i H x us ys, H D = some (.lst us) → H1 D = none → T i H x → T i (upd H D (.lst ys)) x) (hq : H1 a = some (.tup xs)) (hn : xs.length ≤ 4000)
    (turn : ∀ (D : Addr) (i : Nat) (x : V) (U : Addr) (H : Hp) (Qk : VK) (Qn : Hp → Prop), xs[i]? = some x → Same H1 H → H1 D = none → (∃ us, H D = some (.lst us)) → H U = none → (∀ y H4, T i H4 y → Same H H4 → Qk y H4) → g (.ref U) (wipe σ vs) (upd H U (.tup [.int (i : Nat), x])) fun σ2 H2 => wipe σ2 vs = wipe σ vs ∧ tYes σ2 H2 fun b H3 => if b = true then te σ2 H3 Qk else Qn H3)
    (done : ∀ D H ts, H1 D = none → Same H1 H → H D = some (.lst ts) → Paired (fun x i => T i H x) ts (List.range xs.length) → Q D H) : LcD (IteT K a) g tYes te vs σ H1 Q := by
  have ef : ∀ n : Nat, (List.range n).filter (fun _ => true) = List.range n := fun n => List.filter_eq_self.mpr (fun _ _ => rfl)
  refine fun D nD => lcPred (n := xs.length) (tt := tYes) (fun _ => true) T hst (fun i H x us ys e h => hup D i H x us ys e nD h) nD hn (fun i H h s => ⟨xs, xs[i], sqT (s _ _ hq), List.getElem?_eq_getElem h⟩) (fun H s => ⟨xs, sqT (s _ _ hq), rfl⟩)
      (fun i x H H' Qk Qn h s eD y hk _ => ?_) (fun H ts s e p => done D H ts nD s e (by rw [ef] at p; exact p))
  obtain ⟨U, x, rfl, nU, rfl, hx⟩ := y
  exact turn D i x U _ Qk Qn (hx xs (sqT (s _ _ hq))) s nD eD nU fun y H4 h4 s4 => hk y H4 rfl h4 s4
/-- for x in xs, xs a tuple -/
theorem forTt {K : PySem.W.Frag} {a : Addr} {xs : List V} {g : TG} {tb : TS} {D : Ends} {σ : L2.St} {H : Hp} (Pv : Nat → L2.St → Hp → Prop) (hq : H a = some (.tup xs)) (h0 : Pv 0 σ H) (hl : ∀ i σ H' o, Pv i σ H' → H a = some o → H' a = some o)
    (turn : ∀ i x σ H, xs[i]? = some x → Pv i σ H → g x σ H fun σ2 H2 => tb { nx := Pv (i + 1), rt := D.rt, bk := D.nx, ct := Pv (i + 1) } σ2 H2) (done : ∀ σ H, Pv xs.length σ H → D.nx σ H) : ForR (Itt K a) g tb D σ H :=
  forGen (n := xs.length) Pv h0 (fun i σ H h p => ⟨xs, xs[i], sqT (hl _ _ _ _ p hq), List.getElem?_eq_getElem h⟩) (fun σ H p => ⟨xs, sqT (hl _ _ _ _ p hq), Nat.le_refl _⟩) (fun i x σ H H' hi p y => by
    obtain ⟨rfl, y⟩ := y
    exact turn i x σ _ (y xs (sqT (hl _ _ _ _ p hq))) p) done
/-- for x in xs, xs a list that the body does not change -/
theorem forLs {K : PySem.W.Frag} {a : Addr} {xs : List V} {g : TG} {tb : TS} {D : Ends} {σ : L2.St} {H : Hp} (Pv : Nat → L2.St → Hp → Prop) (hq : H a = some (.lst xs)) (h0 : Pv 0 σ H) (hl : ∀ i σ H', Pv i σ H' → H' a = some (.lst xs))
    (turn : ∀ i x σ H, xs[i]? = some x → Pv i σ H → g x σ H fun σ2 H2 => tb { nx := Pv (i + 1), rt := D.rt, bk := D.nx, ct := Pv (i + 1) } σ2 H2) (done : ∀ σ H, Pv xs.length σ H → D.nx σ H) : ForR (Itl K a) g tb D σ H :=
  forGen (n := xs.length) Pv h0 (fun i σ H h p => ⟨xs, xs[i], sqL (hl _ _ _ p), List.getElem?_eq_getElem h⟩) (fun σ H p => ⟨xs, sqL (hl _ _ _ p), Nat.le_refl _⟩) (fun i x σ H H' hi p y => by
    obtain ⟨rfl, y⟩ := y
    exact turn i x σ _ (y xs (sqL (hl _ _ _ p))) p) done
/-- for i in range(n) -/
theorem forRg {n : Nat} {g : TG} {tb : TS} {D : Ends} {σ : L2.St} {H : Hp} (Pv : Nat → L2.St → Hp → Prop) (h0 : Pv 0 σ H)
    (turn : ∀ i σ H, i < n → Pv i σ H → g (.int (i : Nat)) σ H fun σ2 H2 => tb { nx := Pv (i + 1), rt := D.rt, bk := D.nx, ct := Pv (i + 1) } σ2 H2) (done : ∀ σ H, Pv n σ H → D.nx σ H) : ForR (Itr 0 n) g tb D σ H :=
  forGen (n := n) Pv h0 (fun i σ H h p => h) (fun σ H p => Nat.le_refl _) (fun i x σ H H' hi p y => by
    obtain ⟨rfl, rfl⟩ := y
    rw [Int.zero_add]
    exact turn i σ _ hi p) done
theorem atI_lastN {l : List Nat} {y : Nat} (h : l.getLast? = some y) : atI (nts l) (-1) = some (.int (y : Nat)) := by
  obtain ⟨pre, rfl⟩ : ∃ pre, l = pre ++ [y] := List.getLast?_eq_some_iff.mp h
  have e : nts (pre ++ [y]) = nts pre ++ [V.int (y : Nat)] := by unfold nts; rw [List.map_append]; rfl
  rw [e]
  exact atI_end _ _
/-! ### whole numbers from 0 on -/
def rAddN : R2 := fun x y H Q => ∃ m n : Nat, x = .int (m : Nat) ∧ y = .int (n : Nat) ∧ Q (.int ((m + n : Nat) : Int)) H
def rSubN : R2 := fun x y H Q => ∃ m n : Nat, x = .int (m : Nat) ∧ y = .int (n : Nat) ∧ n ≤ m ∧ Q (.int ((m - n : Nat) : Int)) H
def rMultN : R2 := fun x y H Q => ∃ m n : Nat, x = .int (m : Nat) ∧ y = .int (n : Nat) ∧ m < 1000000000000000000 ∧ Q (.int ((m * n : Nat) : Int)) H
def rFloorDivN : R2 := fun x y H Q => ∃ m n : Nat, x = .int (m : Nat) ∧ y = .int (n : Nat) ∧ 1 ≤ n ∧ n < 1073741824 ∧ Q (.int ((m / n : Nat) : Int)) H
def rModN : R2 := fun x y H Q => ∃ m n : Nat, x = .int (m : Nat) ∧ y = .int (n : Nat) ∧ 1 ≤ n ∧ Q (.int ((m % n : Nat) : Int)) H
theorem fmod_nat (m n : Nat) : Int.fmod (m : Int) (n : Int) = ((m % n : Nat) : Int) := by
  rw [Int.fmod_eq_emod_of_nonneg _ (by omega)]
  rfl
theorem fdiv_nat (m n : Nat) : Int.fdiv (m : Int) (n : Int) = ((m / n : Nat) : Int) := by
  rw [Int.fdiv_eq_ediv_of_nonneg _ (by omega)]
  rfl
section
variable {X : Cx}
theorem op_AddN : OpR X (binaryOp .Add) rAddN := by
  intro pins s σ H x y v u Q I rx ry h
  obtain ⟨m, n, hx, hy, q⟩ := h
  exact op_add pins s σ H x y v u Q I rx ry ⟨m, n, hx, hy, by rw [Int.natCast_add] at q; exact q⟩
theorem op_SubN : OpR X (binaryOp .Sub) rSubN := by
  intro pins s σ H x y v u Q I rx ry h
  obtain ⟨m, n, hx, hy, hl, q⟩ := h
  exact op_sub pins s σ H x y v u Q I rx ry ⟨m, n, hx, hy, by rw [Int.natCast_sub hl] at q; exact q⟩
theorem op_MultN : OpR X (binaryOp .Mult) rMultN := by
  intro pins s σ H x y v u Q I rx ry h
  obtain ⟨m, n, hx, hy, hl, q⟩ := h
  exact op_mul pins s σ H x y v u Q I rx ry ⟨m, n, hx, hy, .inl ⟨by omega, by omega⟩, by rw [Int.natCast_mul] at q; exact q⟩
theorem op_FloorDivN : OpR X (binaryOp .FloorDiv) rFloorDivN := by
  intro pins s σ H x y v u Q I rx ry h
  obtain ⟨m, n, hx, hy, h1, h2, q⟩ := h
  exact op_fdivN pins s σ H x y v u Q I rx ry ⟨m, n, hx, hy, ⟨by omega, by omega⟩, by rw [← fdiv_nat] at q; exact q⟩
theorem op_ModN : OpR X (binaryOp .Mod) rModN := by
  intro pins s σ H x y v u Q I rx ry h
  obtain ⟨m, n, hx, hy, h1, q⟩ := h
  exact op_modN pins s σ H x y v u Q I rx ry ⟨m, n, hx, hy, (show ((n : Nat) : Int) ≠ 0 by omega), by rw [← fmod_nat] at q; exact q⟩
end
def rMax2N : List V → Hp → VK → Prop := fun xs H Q => ∃ m n : Nat, xs = [.int (m : Nat), .int (n : Nat)] ∧ Q (.int ((max m n : Nat) : Int)) H
def rMin2N : List V → Hp → VK → Prop := fun xs H Q => ∃ m n : Nat, xs = [.int (m : Nat), .int (n : Nat)] ∧ Q (.int ((min m n : Nat) : Int)) H
section
variable {X : Cx}
theorem call_max2N (hc : X.calm = true) : CallR X (.builtin "max") rMax2N := by
  intro pins s σ H vs us Q I r h
  obtain ⟨m, n, hx, q⟩ := h
  refine call_max2 hc pins s σ H vs us Q I r ⟨m, n, hx, ?_⟩
  have e : (if ((n : Nat) : Int) > ((m : Nat) : Int) then ((n : Nat) : Int) else ((m : Nat) : Int)) = ((max m n : Nat) : Int) := by split <;> omega
  rw [e]
  exact q
theorem call_min2N (hc : X.calm = true) : CallR X (.builtin "min") rMin2N := by
  intro pins s σ H vs us Q I r h
  obtain ⟨m, n, hx, q⟩ := h
  refine call_min2 hc pins s σ H vs us Q I r ⟨m, n, hx, ?_⟩
  have e : (if ((n : Nat) : Int) < ((m : Nat) : Int) then ((n : Nat) : Int) else ((m : Nat) : Int)) = ((min m n : Nat) : Int) := by split <;> omega
  rw [e]
  exact q
end
theorem tupsB {a : Addr} {H H' : Hp} {ts : List V} {ls : List (List V)} (n : NumsAt H a) (s : SameB a H H') (p : TupsT H ts ls) : TupsT H' ts ls := by
  obtain ⟨ns, e, _⟩ := n
  exact paired_imp (fun x c ⟨b, e1, h⟩ => ⟨b, e1, s _ _ (fun z => by rw [z, e] at h; cases h) h⟩) p
theorem pickI {K : PySem.W.Frag} {H : Hp} {L : Addr} {ms : List Int} {r : Nat} {Q : VK} (e : H L = some (.lst (ms.map V.int))) (hr : r < ms.length) (q : ∀ v, v ∈ ms → Q (.int v) H) : rIxL K (.ref L) (.int (r : Nat)) H Q := by
  refine ⟨L, _, r, .int ms[r], rfl, rfl, sqL e, atI_nat ?_, q _ (List.getElem_mem hr)⟩
  rw [List.getElem?_map, List.getElem?_eq_getElem hr]
  rfl
theorem paired_set {α β : Type} {F : α → β → Prop} {xs : List α} {ys : List β} (p : Paired F xs ys) : ∀ (i : Nat) {x : α} {y : β}, F x y → Paired F (xs.set i x) (ys.set i y) := by
  induction p with
  | nil => intro i x y h; exact .nil
  | cons f r ih =>
    intro i x y h
    cases i with
    | zero => exact .cons h r
    | succ i => exact .cons f (ih i h)
theorem ixN_nat {n i : Nat} (h : i < n) : ixN n ((i : Nat) : Int) = some i := by
  unfold ixN
  rw [if_pos (by omega), if_pos (by omega)]
  rfl
/-- for i in range(lo, lo + n) -/
theorem forRgL {lo n : Nat} {g : TG} {tb : TS} {D : Ends} {σ : L2.St} {H : Hp} (Pv : Nat → L2.St → Hp → Prop) (h0 : Pv 0 σ H)
    (turn : ∀ i σ H, i < n → Pv i σ H → g (.int ((lo + i : Nat) : Int)) σ H fun σ2 H2 => tb { nx := Pv (i + 1), rt := D.rt, bk := D.nx, ct := Pv (i + 1) } σ2 H2) (done : ∀ σ H, Pv n σ H → D.nx σ H) : ForR (Itr ((lo : Nat) : Int) n) g tb D σ H :=
  forGen (n := n) Pv h0 (fun i σ H h p => h) (fun σ H p => Nat.le_refl _) (fun i x σ H H' hi p y => by
    obtain ⟨rfl, rfl⟩ := y
    rw [← Int.natCast_add]
    exact turn i σ _ hi p) done
/-- [e for x in xs], xs a tuple; what is made is told by a predicate that speaks of the new list's address, too -/
theorem lcTupD {K : PySem.W.Frag} {a : Addr} {xs : List V} {g : TG} {te : TE} {vs : List Nat} {σ : L2.St} {H1 : Hp} {Q : Addr → Hp → Prop} (T : Addr → Nat → Hp → V → Prop) (hst : ∀ D i H H' x, Same H H' → T D i H x → T D i H' x)
    (hup : ∀ D i H x us ys, H D = some (.lst us) → H1 D = none → T D i H x → T D i (upd H D (.lst ys)) x) (hq : H1 a = some (.tup xs)) (hn : xs.length ≤ 4000)
    (turn : ∀ (D : Addr) (i : Nat) (x : V) (H : Hp) (Qk : VK) (Qn : Hp → Prop), xs[i]? = some x → Same H1 H → H1 D = none → (∃ us, H D = some (.lst us)) → (∀ y H4, T D i H4 y → Same H H4 → Qk y H4) → g x (wipe σ vs) H fun σ2 H2 => wipe σ2 vs = wipe σ vs ∧ tYes σ2 H2 fun b H3 => if b = true then te σ2 H3 Qk else Qn H3)
    (done : ∀ D H ts, H1 D = none → Same H1 H → H D = some (.lst ts) → Paired (fun x i => T D i H x) ts (List.range xs.length) → Q D H) : LcD (Itt K a) g tYes te vs σ H1 Q := by
  have ef : ∀ n : Nat, (List.range n).filter (fun _ => true) = List.range n := fun n => List.filter_eq_self.mpr (fun _ _ => rfl)
  refine fun D nD => lcPred (n := xs.length) (tt := tYes) (fun _ => true) (T D) (hst D) (fun i H x us ys e h => hup D i H x us ys e nD h) nD hn (fun i H h s => ⟨xs, xs[i], sqT (s _ _ hq), List.getElem?_eq_getElem h⟩) (fun H s => ⟨xs, sqT (s _ _ hq), Nat.le_refl _⟩)
      (fun i x H H' Qk Qn h s eD y hk _ => ?_) (fun H ts s e p => done D H ts nD s e (by rw [ef] at p; exact p))
  obtain ⟨rfl, y⟩ := y
  exact turn D i x _ Qk Qn (y xs (sqT (s _ _ hq))) s nD eD fun y H4 h4 s4 => hk y H4 rfl h4 s4
/-! ### tuples of whole numbers, compared -/
theorem dpI {K : PySem.W.Frag} {H : Hp} {T : Addr} {ks : List Int} (h : H T = some (.tup (ks.map V.int))) : Dp K H (.ref T) (.tuple (ks.map PyData.int)) := .tup (sqT h) (dpInts ks)
theorem shI (ks : List Int) : SeqAt.shaped (.tuple (ks.map PyData.int)) = true := by
  unfold SeqAt.shaped
  rw [show PyData.canLay0 (.tuple (ks.map PyData.int)) = PyData.canLayAll0 (ks.map PyData.int) from rfl, canInts, Bool.true_and, decide_eq_true_eq]
  show PyData.depthAll (ks.map PyData.int) + 1 ≤ 64
  rw [depInts]
  decide
theorem eqI (ks ls : List Int) : PyData.eqv (.tuple (ks.map PyData.int)) (.tuple (ls.map PyData.int)) = decide (ks = ls) := by
  rw [PyData.eqv]
  exact eqvInts ks ls
theorem eqIr (ks : List Int) : PyData.eqv (.tuple (ks.map PyData.int)) (.tuple (ks.map PyData.int)) = true := by
  rw [eqI]
  exact decide_eq_true rfl
end K7

set_option Elab.async false
set_option linter.all false
set_option maxRecDepth 100000
set_option maxHeartbeats 4000000
namespace RG
open PySem PySem.Spec PyProof.Rows L2
/-- e, whose new thing is only read from here on -/
def tFz (te : TE) : TE := fun σ H Q => te σ H fun x H1 => ∃ d u, x = .ref d ∧ H1 d = some u ∧ Mut (some u) ∧ ∀ od, Q x (upd H1 d (.frz od u))
theorem pe_froze {X : Cx} {e : Expr} {te : TE} (he : PE X e te) : PE X e (tFz te) := by
  refine ⟨fun pins s σ H Q I h => thn (he.run pins s σ H _ I h) fun v s1 z => ?_⟩
  obtain ⟨x, H1, I1, r1, d, u, rfl, hd, mu, q⟩ := z
  obtain ⟨od, I2⟩ := I1.lock hd mu
  exact ⟨.ref d, _, I2, r1, q od⟩
end RG
namespace K7
open PySem PySem.Spec PyProof.Rows L2 GX NdefX SX
/-- {elt for c in a locked dict with tuple keys if cond} -/
theorem setKT {w : World} {d : Addr} {o : Obj} {kvs : List (List L2.Key × V)} {c : Nat} {tt : TT} {te : TE} {σ : L2.St} {H1 : Hp} {Q : Addr → Hp → Prop} (B : List L2.Key → Bool) (G : List L2.Key → L2.Key) (hk : H1 d = some (.frz o (.dT kvs))) (few : kvs.length < 4000)
    (htt : ∀ (kk : List L2.Key) (q : Addr) (H2 : Hp) (Qt : Bool → Hp → Prop), kk ∈ kvs.map (·.1) → H2 q = some (.tup (kk.map kV)) → Same H1 H2 → Qt (B kk) H2 → tt ((wipe σ [c]).set c (some (.ref q))) H2 Qt)
    (hte : ∀ (kk : List L2.Key) (q : Addr) (H2 : Hp) (Qe : VK), kk ∈ kvs.map (·.1) → B kk = true → H2 q = some (.tup (kk.map kV)) → Same H1 H2 → Qe (kV (G kk)) H2 → te ((wipe σ [c]).set c (some (.ref q))) H2 Qe)
    (done : ∀ D H2 ks, H1 D = none → Same H1 H2 → H2 D = some (Own w D ks) → (∀ k, k ∈ ks ↔ ∃ kk ∈ kvs.map (·.1), B kk = true ∧ G kk = k) → Q D H2) :
    ∀ D, H1 D = none → ∃ W : Nat → Nat → Hp → Prop, (∃ m, W 0 m (upd H1 D (Own w D []))) ∧
      ∀ i m H2, W i m H2 → ((Itkt d o kvs).stop i H2 ∧ Q D H2) ∨ ((Itkt d o kvs).go i H2 ∧ ∃ Nx : Hp → Prop, (∀ H3, Nx H3 → ∃ m1, m1 < m ∧ W (i + 1) m1 H3) ∧
        ∀ x H3, (Itkt d o kvs).yld i H2 x H3 → gName c x (wipe σ [c]) H3 fun σ4 H4 => wipe σ4 [c] = wipe σ [c] ∧ tt σ4 H4 fun b H5 =>
          if b = true then te σ4 H5 fun y H6 => ∃ (k : L2.Key) (ks : List L2.Key), y = kV k ∧ H6 D = some (Own w D ks) ∧ ks.length + 1 < scanBound ∧ Nx (upd H6 D (Own w D (if k ∈ ks then ks else k :: ks))) else Nx H5) := by
  intro D nD
  have ndD : d ≠ D := fun e => by rw [e, nD] at hk; cases hk
  have wk := walk_keysT (d := d) (o := o) (kvs := kvs)
  let Pv : Nat → Hp → Prop := fun i H' => ∃ ks, Same H1 H' ∧ H' D = some (Own w D ks) ∧ (∀ k, k ∈ ks ↔ ∃ kk ∈ (kvs.take i).map (·.1), B kk = true ∧ G kk = k) ∧ ks.length ≤ i
  refine ⟨fun i m H' => m = kvs.length - i ∧ i ≤ kvs.length ∧ Pv i H', ⟨kvs.length, by omega, Nat.zero_le _, [], same_upd nD, upd_same, fun k => by simp, Nat.le_refl _⟩, ?_⟩
  rintro i m H2 ⟨rfl, hi, ks, s2, eD, mem, len⟩
  have hd2 := s2 _ _ hk
  by_cases hlt : i < kvs.length
  · refine .inr ⟨wk.goes i H2 hlt hd2, Pv (i + 1), fun H3 p => ⟨_, by omega, rfl, hlt, p⟩, fun x H3 y => ?_⟩
    obtain ⟨rfl, kk, v, q, hkv, rfl, hq⟩ := wk.yields i H2 x H3 hlt hd2 y
    have mk : kk ∈ kvs.map (·.1) := List.mem_map.mpr ⟨_, List.mem_of_getElem? hkv, rfl⟩
    have tk : (kvs.take (i + 1)).map (·.1) = (kvs.take i).map (·.1) ++ [kk] := by rw [List.take_add_one, hkv, List.map_append]; rfl
    show wipe ((wipe σ [c]).set c (some (.ref q))) [c] = wipe σ [c] ∧ _
    refine ⟨by rw [wipe1, wipe2], htt kk q _ _ mk hq s2 ?_⟩
    by_cases hb : B kk = true
    · rw [hb, if_pos rfl]
      refine hte kk q _ _ mk hb hq s2 ⟨G kk, ks, rfl, eD, by show ks.length + 1 < 4096; omega, if G kk ∈ ks then ks else G kk :: ks, fun b o e => ?_, upd_same, fun k => ?_, ?_⟩
      · rw [upd_ne (fun z => by rw [z, nD] at e; cases e)]; exact s2 _ _ e
      · rw [tk]
        have base : k ∈ (if G kk ∈ ks then ks else G kk :: ks) ↔ k ∈ ks ∨ k = G kk := by
          split
          · rename_i h; exact ⟨.inl, fun z => z.elim id fun e => e ▸ h⟩
          · rw [List.mem_cons]; exact Or.comm
        rw [base, mem k]
        constructor
        · rintro (⟨k2, m2, b2⟩ | e)
          · exact ⟨k2, List.mem_append_left _ m2, b2⟩
          · exact ⟨kk, List.mem_append_right _ (List.mem_singleton.mpr rfl), hb, e.symm⟩
        · rintro ⟨k2, m2, b2, e2⟩
          rcases List.mem_append.mp m2 with m2 | m2
          · exact .inl ⟨k2, m2, b2, e2⟩
          · rw [List.mem_singleton.mp m2] at e2; exact .inr e2.symm
      · split
        · omega
        · simp only [List.length_cons]; omega
    · rw [if_neg hb]
      refine ⟨ks, s2, eD, fun k => ?_, by omega⟩
      rw [tk, mem k]
      constructor
      · rintro ⟨k2, m2, b2⟩
        exact ⟨k2, List.mem_append_left _ m2, b2⟩
      · rintro ⟨k2, m2, b2, e2⟩
        rcases List.mem_append.mp m2 with m2 | m2
        · exact ⟨k2, m2, b2, e2⟩
        · rw [List.mem_singleton.mp m2] at b2; exact absurd b2 hb
  · have e : i = kvs.length := by omega
    subst e
    rw [List.take_length] at mem
    exact .inl ⟨wk.stops _ hd2, done D H2 ks nD s2 eD mem⟩
/-- [elt for c in a locked dict with tuple keys], elt a truth value -/
theorem lcKT {d : Addr} {o : Obj} {kvs : List (List L2.Key × V)} {c : Nat} {te : TE} {σ : L2.St} {H1 : Hp} {Q : Addr → Hp → Prop} (G : List L2.Key → Bool) (hk : H1 d = some (.frz o (.dT kvs))) (few : kvs.length ≤ 4000)
    (hte : ∀ (kk : List L2.Key) (q : Addr) (H2 : Hp) (Qe : VK), kk ∈ kvs.map (·.1) → H2 q = some (.tup (kk.map kV)) → Same H1 H2 → Qe (.bl (G kk)) H2 → te ((wipe σ [c]).set c (some (.ref q))) H2 Qe)
    (done : ∀ D H2, H1 D = none → Same H1 H2 → H2 D = some (.lst ((kvs.map fun p => G p.1).map V.bl)) → Q D H2) : LcD (Itkt d o kvs) (gName c) tYes te [c] σ H1 Q := by
  intro D nD
  have wk := walk_keysT (d := d) (o := o) (kvs := kvs)
  refine ⟨fun i m H' => m = kvs.length - i ∧ i ≤ kvs.length ∧ Same H1 H' ∧ H' D = some (.lst (((kvs.take i).map fun p => G p.1).map V.bl)), ⟨kvs.length, by omega, Nat.zero_le _, same_upd nD, upd_same⟩, ?_⟩
  rintro i m H2 ⟨rfl, hi, s2, eD⟩
  have hd2 := s2 _ _ hk
  by_cases hlt : i < kvs.length
  · refine .inr ⟨wk.goes i H2 hlt hd2, fun H' => Same H1 H' ∧ H' D = some (.lst (((kvs.take (i + 1)).map fun p => G p.1).map V.bl)), fun H3 p => ⟨_, by omega, rfl, hlt, p⟩, fun x H3 y => ?_⟩
    obtain ⟨rfl, kk, v, q, hkv, rfl, hq⟩ := wk.yields i H2 x H3 hlt hd2 y
    have mk : kk ∈ kvs.map (·.1) := List.mem_map.mpr ⟨_, List.mem_of_getElem? hkv, rfl⟩
    delta gName tYes
    refine ⟨by rw [wipe1, wipe2], iteT (hte kk q _ _ mk hq s2 ?_)⟩
    refine ⟨_, eD, ?_, fun b o e => ?_, ?_⟩
    · rw [List.length_map, List.length_map, List.length_take, sizeLine_eq]; omega
    · rw [upd_ne (fun z => by rw [z, nD] at e; cases e)]; exact s2 _ _ e
    · rw [upd_same, List.take_add_one, hkv, List.map_append, List.map_append]; rfl
  · have e : i = kvs.length := by omega
    subst e
    rw [List.take_length] at eD
    exact .inl ⟨wk.stops _ hd2, done D H2 nD s2 eD⟩
end K7

set_option Elab.async false
set_option linter.all false
set_option maxRecDepth 100000
set_option maxHeartbeats 4000000
/-! raise C(e, ..) from D(..): both own exceptions -/
namespace L2
open PySem PySem.Spec PyProof.Rows
section
variable {X : Cx} {pins : List (Addr × Obj)} {σ : St} {H : Hp} {s : Shared}
/-- the new exception is held as a pin -/
theorem Inv.pin1 {sI : Shared} {a : Addr} {oe : Obj} {vs : Array Value} (J : Inv X pins σ H sI) (k : ∀ b o, sI.heap.get? b = some o → s.heap.get? b = some o) (ne : sI.heap.get? a = none) (ha : s.heap.get? a = some oe) (hd : oe.data = .fields vs)
    (na : H a = none) (os : s.os = sI.os) (ag : AllBare s.gens) : Inv X ((a, oe) :: pins) σ H s := by
  have J1 : Inv X pins σ H s := by
    obtain ⟨h1, g1, d1, t1, os1⟩ := s
    cases os
    exact J.call' (ch := []) rfl (Un.kept k) (J.hok.kept k) ag fun _ z => nomatch z
  have pn : ∀ p ∈ X.pn ++ pins, s.heap.get? p.1 = some p.2 ∧ H p.1 = none ∧ p.1 ≠ X.env.locals ∧ p.1 ∉ X.fs ∧ ∀ v, p.2.data ≠ .cell v := J1.pin
  refine { J1 with pin := fun p m => ?_ }
  rcases List.mem_append.mp m with m | m
  · exact pn p (List.mem_append_left _ m)
  · rcases List.mem_cons.mp m with e | m
    · subst e
      refine ⟨ha, na, fun e => ?_, fun e => ?_, fun v e => ?_⟩
      · obtain ⟨_, ⟨o, _, _, q, _⟩, _⟩ := J.loc
        rw [← show a = X.env.locals from e, ne] at q; cases q
      · obtain ⟨_, o, q, _⟩ := J.funs.mem (show a ∈ frs X.outer from e)
        rw [ne] at q; cases q
      · rw [show oe.data = Data.fields vs from hd] at e; cases e
    · exact pn p (List.mem_append_right _ m)
/-- a pinned object that no def's entry knew is left out of the heap -/
theorem Inv.drop {a : Addr} {oe : Obj} {vs : Array Value} (J : Inv X ((a, oe) :: pins) σ H s) (hd : oe.data = .fields vs) (fresh : X.s_0.heap.get? a = none) (other : ∀ p ∈ X.pn ++ pins, p.1 ≠ a) (exs : a ∉ X.ex) :
    ∃ G : Heap, Inv X pins σ H { s with heap := G } ∧ (∀ b o, G.get? b = some o → s.heap.get? b = some o) ∧ G.get? a = none := by
  obtain ⟨G, g1, g2⟩ := restrict s.heap fun b => decide (b ≠ a)
  have gk : ∀ b, b ≠ a → G.get? b = s.heap.get? b := fun b hb => g1 b (decide_eq_true hb)
  have ge : G.get? a = none := g2 a (by simp)
  obtain ⟨ha, na, nl, nf, nc⟩ := J.pin (a, oe) (List.mem_append_right _ List.mem_cons_self)
  have back : ∀ b o, G.get? b = some o → s.heap.get? b = some o := fun b o z => by
    by_cases e : b = a
    · subst e; rw [ge] at z; cases z
    · rw [← gk b e]; exact z
  have nc0 : ∀ c v, s.heap.IsCell c v → c ≠ a := fun c v z e => by
    obtain ⟨o, q, d⟩ := z
    rw [e, ha] at q
    cases q
    exact nc v d
  have cells : ∀ c v, s.heap.IsCell c v → G.IsCell c v := fun c v z => by
    have ne := nc0 c v z
    obtain ⟨o, q, d⟩ := z
    exact ⟨o, (gk c ne).trans q, d⟩
  have old : ∀ {b : Addr} {o : Obj}, X.s_0.heap.get? b = some o → b ≠ a := fun {b o} z e => by rw [e, fresh] at z; cases z
  refine ⟨G, ?_, back, ge⟩
  exact {
    ok := J.ok, os := J.os, bare := J.bare, free := J.free, freeC := J.freeC, len := J.len
    base := {
      keep := fun b o z n hf hx => (gk b (old z)).trans (J.base.keep b o z n hf hx)
      slot := fun b o z n hf hx => by
        obtain ⟨sl, q⟩ := J.base.slot b o z n hf hx
        exact ⟨sl, (gk b (old z)).trans q⟩
      free := J.base.free
      there := fun b o z hx => by
        obtain ⟨o1, q⟩ := J.base.there b o z hx
        exact ⟨o1, (gk b (old z)).trans q⟩
      tups := J.base.tups, frzs := J.base.frzs, tbls := J.base.tbls }
    loc := by
      obtain ⟨m, ⟨o, es, ep, q, d, r⟩, look⟩ := J.loc
      refine ⟨m, ⟨o, es, ep, (gk _ (Ne.symm nl)).trans q, d, r⟩, fun i x v h1 h2 h3 => ?_⟩
      obtain ⟨u, ru, lk⟩ := look i x v h1 h2 h3
      refine ⟨u, ru, ?_⟩
      rcases lk with z | ⟨z, c, q1, q2⟩
      · exact .inl z
      · exact .inr ⟨z, c, q1, cells c _ q2⟩
    cell := fun x c q => by
      obtain ⟨v, z⟩ := J.cell x c q
      exact ⟨v, cells c v z⟩
    pin := fun p m => by
      have q := J.pin p (by
        rcases List.mem_append.mp m with z | z
        · exact List.mem_append_left _ z
        · exact List.mem_append_right _ (List.mem_cons_of_mem _ z))
      exact ⟨(gk _ (other p m)).trans q.1, q.2⟩
    hok := fun b o z => by
      have hb : b ≠ a := fun e => by rw [e, na] at z; cases z
      refine (J.hok b o z).stay (fun c v hc y => ?_) (fun c hc => hc) fun c xs hc => hc
      have hca : c ≠ a := by
        rcases hc with hc | hc
        · rw [hc]; exact hb
        · intro e; rw [e, na] at hc; cases hc
      exact (gk c hca).trans y }
end
/-- an expression that makes an exception with its six fields -/
def PMk6 (X : Cx) (e : Expr) (t : St → Hp → XK → Prop) : Prop :=
  ∀ (pins : List (Addr × Obj)) (s : Shared) (σ : St) (H : Hp) (Q : XK), Inv X pins σ H s → t σ H Q →
    wpAny (model X.prog X.w) X.A (eval e X.env) (fun u s1 => MkP X pins σ Q u s1 ∧ ∀ (a : Addr) (o : Obj) (vs : Array Value), u = .ref a → s1.heap.get? a = some o → o.data = .fields vs → vs.size = 6) X.xe s
theorem raise_cause {M : Model} {A : Around} {E : Value → Shared → Prop} {env : Env} {s : Shared} {x c : Sem Value} {Q : Flow → Shared → Prop} (calm : A.handled = none)
    (h : wpAny M A x (fun v s1 => wpAny M A c (fun u s2 => ∃ a oe vs cls b ob vs2 cls2, v = .ref a ∧ u = .ref b ∧ (s2.heap.get? a = some oe ∧ oe.cls = cls ∧ oe.data = .fields vs ∧ vs[1]? = some .none ∧ vs.size = 6) ∧ (s2.heap.get? b = some ob ∧ ob.cls = cls2 ∧ ob.data = .fields vs2) ∧
      PySem.W.Looks M s2.heap (isSubtype cls (.type "BaseException")) true ∧ PySem.W.Looks M s2.heap (isSubtype cls2 (.type "BaseException")) true ∧
      PySem.W.Looks M ((s2.heap.update a (Obj.mapFields (·.setIfInBounds 3 (.ref b)))).update a (Obj.mapFields (·.setIfInBounds 4 (.bool true)))) (typeOf cls) (.type "type") ∧
      E (.ref a) { s2 with heap := (s2.heap.update a (Obj.mapFields (·.setIfInBounds 3 (.ref b)))).update a (Obj.mapFields (·.setIfInBounds 4 (.bool true))) }) E s1) E s) :
    wpAny M A (raiseStmt env (some x) (some c)) Q E s := by
  unfold raiseStmt
  dsimp only
  refine wpAny_bind (wpAny_mono h (fun v s1 h1 => ?_) fun _ _ z => z)
  refine wpAny_bind (wpAny_holding (wpAny_mono h1 (fun u s2 h2 => ?_) fun _ _ z => z))
  obtain ⟨a, oe, vs, cls, b, ob, vs2, cls2, rfl, rfl, ⟨ha, hc, hd, hf, hz⟩, ⟨hb, hc2, hd2⟩, L1, L2', L3, hE⟩ := h2
  have isT : ∀ {n : Addr} {o : Obj} {ws : Array Value} {h' : Heap} {Q' : Bool → Shared → Prop}, h'.get? n = some o → o.data = .fields ws → Q' false { s2 with heap := h' } → wpAny M A (isType (.ref n)) Q' E { s2 with heap := h' } := by
    intro n o ws h' Q' ho hw hq
    simp only [isType, loadHead]
    refine wpAny_bind (wpAny_loadPart ho ?_)
    rw [hw]; exact wpAny_pure hq
  have LA : PySem.W.Looks M s2.heap (isInstance (.ref a) (.type "BaseException")) true := (show PySem.W.Looks M s2.heap (typeOf (.ref a)) cls from fun A Q E s k q => wpAny_typeOf_ref (k _ _ ha) (by rw [hc]; exact q)).andThen L1
  have LB : PySem.W.Looks M s2.heap (isInstance (.ref b) (.type "BaseException")) true := (show PySem.W.Looks M s2.heap (typeOf (.ref b)) cls2 from fun A Q E s k q => wpAny_typeOf_ref (k _ _ hb) (by rw [hc2]; exact q)).andThen L2'
  refine wpAny_bind (wpAny_pure ?_)
  dsimp only
  refine wpAny_bind (wpAny_holding ?_)
  have exc : ∀ {n : Addr} {o : Obj} {ws : Array Value} {w : String} {Q' : Value → Shared → Prop}, s2.heap.get? n = some o → o.data = .fields ws → PySem.W.Looks M s2.heap (isInstance (.ref n) (.type "BaseException")) true → Q' (.ref n) s2 →
      wpAny M A (excFromValue (.ref n) w) Q' E s2 := by
    intro n o ws w Q' ho hw L hq
    unfold excFromValue isExcClass
    refine wpAny_bind (wpAny_bind (isT (h' := s2.heap) ho hw ?_))
    simp only [Bool.false_eq_true, if_false]
    refine wpAny_pure ?_
    simp only [Bool.false_eq_true, if_false]
    refine wpAny_bind (L.here ?_)
    simp only [if_true]
    exact wpAny_pure hq
  refine exc ha hd LA ?_
  have s3 : 3 < vs.size := by omega
  have ha3 := Heap.get?_update_self (Obj.mapFields (·.setIfInBounds 3 (.ref b))) ha (Obj.isFreed_of_fields (Obj.data_mapFields hd _))
  have hd3 := Obj.data_mapFields hd (·.setIfInBounds 3 (.ref b))
  have s4 : 4 < (vs.setIfInBounds 3 (Value.ref b)).size := by simp; omega
  have ha4 := Heap.get?_update_self (Obj.mapFields (·.setIfInBounds 4 (.bool true))) ha3 (Obj.isFreed_of_fields (Obj.data_mapFields hd3 _))
  have hd4 := Obj.data_mapFields hd3 (·.setIfInBounds 4 (.bool true))
  have h1f : ((vs.setIfInBounds 3 (Value.ref b)).setIfInBounds 4 (Value.bool true))[1]? = some Value.none := by
    rw [Array.getElem?_setIfInBounds_ne (by decide), Array.getElem?_setIfInBounds_ne (by decide)]; exact hf
  have cls4 : (((oe.mapFields (·.setIfInBounds 3 (.ref b)))).mapFields (·.setIfInBounds 4 (.bool true))).cls = cls := by rw [Obj.cls_mapFields, Obj.cls_mapFields]; exact hc
  have rest : wpAny M A (do
      let b ← isType (.ref a)
      if b = true then do
        let e ← holding [.ref a] (raisedFor (.ref a) (.ref a))
        setFlight e none
        raiseNew e
      else do
        let e ← raisedInstance (.ref a)
        setFlight e none
        raiseNew e : Sem Flow) Q E { s2 with heap := (s2.heap.update a (Obj.mapFields (·.setIfInBounds 3 (.ref b)))).update a (Obj.mapFields (·.setIfInBounds 4 (.bool true))) } := by
    refine wpAny_bind (isT ha4 hd4 ?_)
    simp only [Bool.false_eq_true, if_false]
    unfold raisedInstance
    refine wpAny_bind (wpAny_bind (wpAny_typeOf_ref ha4 ?_))
    rw [cls4]
    refine wpAny_bind (L3.here ?_)
    rw [if_pos (beq_self_eq_true _)]
    refine wpAny_pure ?_
    unfold setFlight
    refine wpAny_bind (wpAny_bind (wpAny_field ha4 hd4 h1f ?_))
    rw [if_neg (by decide)]
    exact wpAny_pure (wpAny_raiseNew_none calm hE)
  have nn : (Value.ref b == Value.none) = false := rfl
  rw [nn]
  simp only [Bool.false_eq_true, if_false]
  refine wpAny_bind (wpAny_holding (exc hb hd2 LB ?_))
  exact wpAny_bind (wpAny_setField ha hd s3 (wpAny_bind (wpAny_setField ha3 hd3 s4 rest)))
/-- raise e from f -/
theorem ps_raiseF {X : Cx} {W : WX} {e f : Expr} {t u : St → Hp → XK → Prop} {pos : Pos} (calm : X.calm = true) (hex : X.ex = []) (tk : Takes X W) (he : PMk6 X e t) (hf : PMk X f u) :
    PS X (.Raise (some e) (some f) pos) (fun _ σ H => t σ H fun cls d H1 => u σ H1 fun _ _ H2 => W cls d σ H2) := by
  refine ⟨fun pins s σ H D I h => ?_⟩
  show wpAny _ _ (do standAt pos; raiseStmt X.env (some (do let v ← eval e X.env; standAt pos; pure v)) (some (do let v ← eval f X.env; standAt pos; pure v))) _ _ _
  refine wpAny_bind (wpAny_standAt (raise_cause (I.ok.hd calm) (wpAny_bind (wpAny_mono (he pins s σ H _ I h) (fun v s1 h1 => wpAny_bind (wpAny_standAt (wpAny_pure ?_))) fun _ _ z => z))))
  obtain ⟨⟨a, oe, vs, sI, H1, cls, d, rfl, J, k, ne, ha, hz, hd, hn, na, os, ag, r, q⟩, six⟩ := h1
  have J1 := Inv.pin1 J k ne ha hd na os ag
  refine wpAny_bind (wpAny_mono (hf _ s1 σ H1 _ J1 q) (fun w s2 h2 => wpAny_bind (wpAny_standAt (wpAny_pure ?_))) fun _ _ z => z)
  obtain ⟨b, ob, vs2, sI2, H2, cls2, d2, rfl, J2, k2, ne2, hb, hz2, hd2, -, -, os2, ag2, r2, q2⟩ := h2
  have pa := J2.pin (a, oe) (List.mem_append_right _ List.mem_cons_self)
  have ha2 : s2.heap.get? a = some oe := k2 _ _ pa.1
  have fresh : X.s_0.heap.get? a = none := by
    cases z : X.s_0.heap.get? a with
    | none => rfl
    | some o =>
      obtain ⟨o1, z1⟩ := J.base.there a o z (by rw [hex]; simp)
      rw [ne] at z1; cases z1
  obtain ⟨G, J3, back, ge⟩ := Inv.drop J2 hd fresh (fun p m e1 => by
    have z := (J.pin p m).1
    rw [e1, ne] at z; cases z) (by rw [hex]; simp)
  have other : ∀ c o, G.get? c = some o → ((s2.heap.update a (Obj.mapFields (·.setIfInBounds 3 (.ref b)))).update a (Obj.mapFields (·.setIfInBounds 4 (.bool true)))).get? c = some o := fun c o z => by
    have nac : a ≠ c := fun e1 => by rw [← e1, ge] at z; cases z
    rw [Heap.get?_update_other _ _ nac, Heap.get?_update_other _ _ nac]
    exact k2 _ _ (back _ _ z)
  have ha3 := Heap.get?_update_self (Obj.mapFields (·.setIfInBounds 3 (.ref b))) ha2 (Obj.isFreed_of_fields (Obj.data_mapFields hd _))
  have hd3 := Obj.data_mapFields hd (·.setIfInBounds 3 (.ref b))
  have ha4 := Heap.get?_update_self (Obj.mapFields (·.setIfInBounds 4 (.bool true))) ha3 (Obj.isFreed_of_fields (Obj.data_mapFields hd3 _))
  have hd4 := Obj.data_mapFields hd3 (·.setIfInBounds 4 (.bool true))
  have h1f : ((vs.setIfInBounds 3 (Value.ref b)).setIfInBounds 4 (Value.bool true))[1]? = some Value.none := by
    rw [Array.getElem?_setIfInBounds_ne (by decide), Array.getElem?_setIfInBounds_ne (by decide)]; exact hn
  refine ⟨a, oe, vs, cls, b, ob, vs2, cls2, rfl, rfl, ⟨ha2, hz.1, hd, hn, six a oe vs rfl ha hd⟩, ⟨hb, hz2.1, hd2⟩, (r (model X.prog X.w) s2.heap (J2.kIn.keeps k2)).1, (r2 (model X.prog X.w) s2.heap (J2.kIn.keeps k2)).1,
    (r (model X.prog X.w) _ (J3.kIn.keeps other)).2, tk _ _ ?_⟩
  exact XE.new J3 other ge ha4 ⟨by rw [Obj.cls_mapFields, Obj.cls_mapFields]; exact hz.1, by rw [HandSPX.dict_mapFields, HandSPX.dict_mapFields]; exact hz.2⟩ hd4 h1f pa.2.1 os2 ag2 q2
/-- C(e, ..), C's own __init__ keeping sp, with its six fields -/
theorem pmk_oex6 {X : Cx} {CX : CXT} {x : Str} {C fI : Addr} {k : Nat} {fd : FuncData} {ps : List Str} {sp : Sp} {ds : List Value} {dvs : List V} {e : Expr} {es : List Expr} {ta : TA} {p pos : Pos} (T : OexC X.K C)
    (iC : PySem.W.findIn X.K (.ref C) "__init__" = some (some (.ref fI))) (tI : PySem.W.typeIn X.K (.ref fI) = some (.type "function")) (F1 : FnOk X.prog X.w X.K X.mg X.base CX k fI fd ps sp) (hr : Room (k + 1) X.A) (hb : Binds X.K fd ps ds) (hd : Vals dvs ds)
    (hx : Passes CX X (fun _ _ _ => False)) (hg : Gl X x) (hm : X.mg x = some (.ref C)) (ha : PA X (e :: es) ta) (hdb : (x == ("__debug__" : Str)) = false := by decide)
    (he : starEach (e :: es) X.env = (false, eval e X.env) :: starEach es X.env := by rfl) (hpl : (backTo pos (starEach es X.env)).any (·.1) = false := by rfl) : PMk6 X (.Call (.Name x p) (e :: es) [] pos) (tMkO C sp dvs ta) := by
  intro pins s σ H Q I h
  obtain ⟨_, _, _, _, bm, _, _, _, _, _, _, _, _, _, _, hC, hbm⟩ := T.cls
  refine wpAny_Call_Name_kw (ld_glob I hg hm (PySem.W.callWith_K (h₀ := X.base) I.ok.mod.kin T.kC (thn (ha.run pos pins s σ H _ I h) fun us s1 z => ?_) he hpl) hdb)
  obtain ⟨vs, H1, I1, r1, hz, q1⟩ := z
  refine ⟨I1.kIn, ?_⟩
  show wpAny _ _ (call (.ref C) us) _ _ _
  obtain ⟨hp, g, dr, tk, os⟩ := s1
  generalize ea : hp.objs.size + 1 = a
  have le : hp.objs.size ≤ a := by omega
  have hq := q1 a (I1.hok.fresh le)
  have grow : ∀ b o, hp.get? b = some o → ((hp.push (PySem.W.kdv_tup us)).push (PySem.HandSPX.excO C hp.objs.size)).get? b = some o := fun b o z => Heap.get?_push_of_some _ (Heap.get?_push_of_some _ z)
  have there : ((hp.push (PySem.W.kdv_tup us)).push (PySem.HandSPX.excO C hp.objs.size)).get? a = some (PySem.HandSPX.excO C hp.objs.size) := by subst ea; heap_get
  have I2 : Inv X pins σ (upd H1 a (exo a C none)) ⟨(hp.push (PySem.W.kdv_tup us)).push (PySem.HandSPX.excO C hp.objs.size), g, dr, tk, os⟩ := I1.laid (t' := tk) grow le (exo_ok there)
  have r2 : Vals (V.ref a :: (vs ++ dvs)) (Value.ref a :: (us ++ ds)) := .cons rfl (r1.append hd)
  have fit : us.length ≤ sizeLine := by rw [← Paired.length r1, sizeLine_eq]; omega
  subst ea
  refine wpAny_call (PySem.HandSPX.call_own F.excBase_ValueError (fun Y => PySem.HandSPX.refsVE_contains Y bm hbm) (I1.kIn _ _ hC) (PySem.W.looks_findIn I1.kIn iC) (fun self => PySem.W.bind_fn I1.kIn self tI) fit
    (codeAny_mono (F1.run _ X.stack _ _ ⟨Value.ref (hp.objs.size + 1) :: us, []⟩ (Value.ref (hp.objs.size + 1) :: (us ++ ds)) _ _ (fun _ _ _ => False) (hr.make C us []) (I2.env0.make C us []) (hb _ (Value.ref (hp.objs.size + 1) :: us) I2.kIn (r2.length.symm.trans (F1.len _ _ _ _ hq))) r2 hq) fun r s2 z => ?_))
  match r, s2, z with
  | .error er, s2, z => exact hx pins σ _ _ er s2 I2 z
  | .ok .next, _, z => exact (show False from z).elim
  | .ok .brk, _, z => exact (show False from z).elim
  | .ok .cont, _, z => exact (show False from z).elim
  | .ok (.ret u), ⟨h2, g2, d2, t2, o2⟩, z =>
    obtain ⟨v, H2, os2, bare2, un2, hok2, rv, ev, d, fs, ea, ed, hd1, q2⟩ := z
    subst ev
    obtain ⟨t0, G, J, kG, ge, hoe, na⟩ := mk_end0 (d2 := d2) (t2 := t2) I1 le grow un2 hok2 os2 bare2 ea ed hd1
    refine ⟨rv, ⟨_, _, _, ⟨G, g2, d2, t2, o2⟩, _, .ref C, some d, rfl, J, kG, ge, hoe, ⟨rfl, rfl⟩, rfl, rfl, na, rfl, bare2, raises_own T.exC T.tyC, q2⟩, fun a1 o1 ws ea1 q3 q4 => ?_⟩
    cases ea1
    rw [show h2.get? (hp.objs.size + 1) = some o1 from q3] at hoe
    cases hoe
    cases q4
    rfl
end L2

set_option Elab.async false
set_option linter.all false
set_option maxRecDepth 100000
set_option maxHeartbeats 4000000
namespace K7
open PySem PySem.Spec PyProof.Rows L2 GX NdefX
def topS (i : Nat) : Stmt := PySem.Challenge.pw_guardrungs_k00_formulas.main.body.getD i (.Pass ⟨0, 0, 0, 0⟩)
abbrev s_BadFormula_init : Stmt := inClass (topS 2) 0
abbrev s_BadText_init : Stmt := inClass (topS 3) 0
abbrev s_is_whole : Stmt := topS 5
abbrev s_is_bit : Stmt := topS 6
abbrev s_is_name : Stmt := topS 14
abbrev s_is_formula : Stmt := topS 15
abbrev s__is_part : Stmt := topS 16
abbrev s_check_formula : Stmt := topS 17
abbrev s_leaves_of : Stmt := topS 18
abbrev s_has_edges : Stmt := topS 19
abbrev s_is_plain : Stmt := topS 20
abbrev s_told_names : Stmt := topS 21
abbrev s_told_edges : Stmt := topS 22
abbrev s_names_of : Stmt := topS 23
abbrev s_edges_of : Stmt := topS 24
abbrev s_told_text : Stmt := topS 26
abbrev s_formula_text : Stmt := topS 27
abbrev s_Bracket_init : Stmt := inClass (topS 28) 0
abbrev s_Bracket_take : Stmt := inClass (topS 28) 1
abbrev s_Bracket_whole : Stmt := inClass (topS 28) 2
abbrev s_Reader_init : Stmt := inClass (topS 29) 0
abbrev s_Reader_read : Stmt := inClass (topS 29) 1
abbrev s_Reader_read_edge_name : Stmt := inClass (topS 29) 2
abbrev s_Reader_read_beginning : Stmt := inClass (topS 29) 3
abbrev s_Reader_read_behind : Stmt := inClass (topS 29) 4
abbrev s_Reader_took : Stmt := inClass (topS 29) 5
abbrev s_read_formula : Stmt := topS 30
abbrev s_formula_from : Stmt := topS 31
abbrev s__law_numbers : Stmt := topS 33
abbrev s__law_draw : Stmt := topS 34
abbrev s__law_int : Stmt := topS 35
abbrev s__law_pool : Stmt := topS 36
abbrev s__law_leaf_told : Stmt := topS 37
abbrev s__law_wrapped : Stmt := topS 38
abbrev s__law_gap : Stmt := topS 39
abbrev s__law_not_told : Stmt := topS 40
abbrev s__law_joint_told : Stmt := topS 41
abbrev s__law_grown : Stmt := topS 42
abbrev s__law_each_once : Stmt := topS 43
abbrev s__law_good : Stmt := topS 44
abbrev s__law_wide_right : Stmt := topS 45
abbrev s__law_line : Stmt := topS 46
abbrev s__law_refused : Stmt := topS 47
abbrev s__law_bad_formulas : Stmt := topS 48
abbrev s__law_bad_texts : Stmt := topS 49
abbrev s__law_names_right : Stmt := topS 50
abbrev s_law : Stmt := topS 51
theorem ns_BadFormula_init : NScope ["self", "__class__"] ["self"] ["__class__"] (defScope s_BadFormula_init) := ⟨rfl, rfl, rfl, by decide +kernel, rfl, by decide +kernel, by decide +kernel, by decide +kernel, by decide +kernel⟩
theorem ns_BadText_init : NScope ["self", "line", "__class__"] ["self", "line"] ["__class__"] (defScope s_BadText_init) := ⟨rfl, rfl, rfl, by decide +kernel, rfl, by decide +kernel, by decide +kernel, by decide +kernel, by decide +kernel⟩
abbrev n_is_whole : List Str := ["value", "least", "most"]
theorem sc_is_whole : FnScope n_is_whole ["value", "least", "most"] (defScope s_is_whole) := ⟨rfl, rfl, rfl, by decide +kernel, rfl, by decide +kernel, by decide +kernel⟩
abbrev n_is_bit : List Str := ["value"]
theorem sc_is_bit : FnScope n_is_bit ["value"] (defScope s_is_bit) := ⟨rfl, rfl, rfl, by decide +kernel, rfl, by decide +kernel, by decide +kernel⟩
abbrev n_is_name : List Str := ["value", "sign"]
theorem sc_is_name : FnScope n_is_name ["value"] (defScope s_is_name) := ⟨rfl, rfl, rfl, by decide +kernel, rfl, by decide +kernel, by decide +kernel⟩
abbrev n_is_formula : List Str := ["value", "names", "depth", "level", "_", "below", "part"]
theorem sc_is_formula : FnScope n_is_formula ["value", "names", "depth"] (defScope s_is_formula) := ⟨rfl, rfl, rfl, by decide +kernel, rfl, by decide +kernel, by decide +kernel⟩
abbrev n__is_part : List Str := ["part", "names", "kind", "inside"]
theorem sc__is_part : FnScope n__is_part ["part", "names"] (defScope s__is_part) := ⟨rfl, rfl, rfl, by decide +kernel, rfl, by decide +kernel, by decide +kernel⟩
abbrev n_check_formula : List Str := ["formula"]
theorem sc_check_formula : FnScope n_check_formula ["formula"] (defScope s_check_formula) := ⟨rfl, rfl, rfl, by decide +kernel, rfl, by decide +kernel, by decide +kernel⟩
abbrev n_leaves_of : List Str := ["formula", "found", "left", "part"]
theorem sc_leaves_of : FnScope n_leaves_of ["formula"] (defScope s_leaves_of) := ⟨rfl, rfl, rfl, by decide +kernel, rfl, by decide +kernel, by decide +kernel⟩
abbrev n_has_edges : List Str := ["formula", "leaf"]
theorem sc_has_edges : FnScope n_has_edges ["formula"] (defScope s_has_edges) := ⟨rfl, rfl, rfl, by decide +kernel, rfl, by decide +kernel, by decide +kernel⟩
abbrev n_is_plain : List Str := ["formula"]
theorem sc_is_plain : FnScope n_is_plain ["formula"] (defScope s_is_plain) := ⟨rfl, rfl, rfl, by decide +kernel, rfl, by decide +kernel, by decide +kernel⟩
abbrev n_told_names : List Str := ["formula", "leaf"]
theorem sc_told_names : FnScope n_told_names ["formula"] (defScope s_told_names) := ⟨rfl, rfl, rfl, by decide +kernel, rfl, by decide +kernel, by decide +kernel⟩
abbrev n_told_edges : List Str := ["formula", "leaf"]
theorem sc_told_edges : FnScope n_told_edges ["formula"] (defScope s_told_edges) := ⟨rfl, rfl, rfl, by decide +kernel, rfl, by decide +kernel, by decide +kernel⟩
abbrev n_names_of : List Str := ["formula"]
theorem sc_names_of : FnScope n_names_of ["formula"] (defScope s_names_of) := ⟨rfl, rfl, rfl, by decide +kernel, rfl, by decide +kernel, by decide +kernel⟩
abbrev n_edges_of : List Str := ["formula"]
theorem sc_edges_of : FnScope n_edges_of ["formula"] (defScope s_edges_of) := ⟨rfl, rfl, rfl, by decide +kernel, rfl, by decide +kernel, by decide +kernel⟩
abbrev n_told_text : List Str := ["formula", "kind", "inside", "joint", "parts", "part"]
theorem sc_told_text : FnScope n_told_text ["formula"] (defScope s_told_text) := ⟨rfl, rfl, rfl, by decide +kernel, rfl, by decide +kernel, by decide +kernel⟩
abbrev n_formula_text : List Str := ["formula"]
theorem sc_formula_text : FnScope n_formula_text ["formula"] (defScope s_formula_text) := ⟨rfl, rfl, rfl, by decide +kernel, rfl, by decide +kernel, by decide +kernel⟩
abbrev n_Bracket_init : List Str := ["self"]
theorem sc_Bracket_init : FnScope n_Bracket_init ["self"] (defScope s_Bracket_init) := ⟨rfl, rfl, rfl, by decide +kernel, rfl, by decide +kernel, by decide +kernel⟩
abbrev n_Bracket_take : List Str := ["self", "formula", "depth", "_"]
theorem sc_Bracket_take : FnScope n_Bracket_take ["self", "formula", "depth"] (defScope s_Bracket_take) := ⟨rfl, rfl, rfl, by decide +kernel, rfl, by decide +kernel, by decide +kernel⟩
abbrev n_Bracket_whole : List Str := ["self"]
theorem sc_Bracket_whole : FnScope n_Bracket_whole ["self"] (defScope s_Bracket_whole) := ⟨rfl, rfl, rfl, by decide +kernel, rfl, by decide +kernel, by decide +kernel⟩
abbrev n_Reader_init : List Str := ["self"]
theorem sc_Reader_init : FnScope n_Reader_init ["self"] (defScope s_Reader_init) := ⟨rfl, rfl, rfl, by decide +kernel, rfl, by decide +kernel, by decide +kernel⟩
abbrev n_Reader_read : List Str := ["self", "word"]
theorem sc_Reader_read : FnScope n_Reader_read ["self", "word"] (defScope s_Reader_read) := ⟨rfl, rfl, rfl, by decide +kernel, rfl, by decide +kernel, by decide +kernel⟩
abbrev n_Reader_read_edge_name : List Str := ["self", "word"]
theorem sc_Reader_read_edge_name : FnScope n_Reader_read_edge_name ["self", "word"] (defScope s_Reader_read_edge_name) := ⟨rfl, rfl, rfl, by decide +kernel, rfl, by decide +kernel, by decide +kernel⟩
abbrev n_Reader_read_beginning : List Str := ["self", "word", "bracket"]
theorem sc_Reader_read_beginning : FnScope n_Reader_read_beginning ["self", "word"] (defScope s_Reader_read_beginning) := ⟨rfl, rfl, rfl, by decide +kernel, rfl, by decide +kernel, by decide +kernel⟩
abbrev n_Reader_read_behind : List Str := ["self", "word", "bracket", "formula", "depth"]
theorem sc_Reader_read_behind : FnScope n_Reader_read_behind ["self", "word"] (defScope s_Reader_read_behind) := ⟨rfl, rfl, rfl, by decide +kernel, rfl, by decide +kernel, by decide +kernel⟩
abbrev n_Reader_took : List Str := ["self", "formula", "depth"]
theorem sc_Reader_took : FnScope n_Reader_took ["self", "formula", "depth"] (defScope s_Reader_took) := ⟨rfl, rfl, rfl, by decide +kernel, rfl, by decide +kernel, by decide +kernel⟩
abbrev n_read_formula : List Str := ["text", "reader", "word"]
theorem sc_read_formula : FnScope n_read_formula ["text"] (defScope s_read_formula) := ⟨rfl, rfl, rfl, by decide +kernel, rfl, by decide +kernel, by decide +kernel⟩
abbrev n_formula_from : List Str := ["text", "told", "formula", "depth"]
theorem sc_formula_from : FnScope n_formula_from ["text"] (defScope s_formula_from) := ⟨rfl, rfl, rfl, by decide +kernel, rfl, by decide +kernel, by decide +kernel⟩
abbrev n__law_numbers : List Str := ["script", "numbers", "place", "cell", "turned", "turn", "seed"]
theorem sc__law_numbers : FnScope n__law_numbers ["script"] (defScope s__law_numbers) := ⟨rfl, rfl, rfl, by decide +kernel, rfl, by decide +kernel, by decide +kernel⟩
abbrev n__law_draw : List Str := ["numbers", "many"]
theorem sc__law_draw : FnScope n__law_draw ["numbers", "many"] (defScope s__law_draw) := ⟨rfl, rfl, rfl, by decide +kernel, rfl, by decide +kernel, by decide +kernel⟩
abbrev n__law_int : List Str := ["value"]
theorem sc__law_int : FnScope n__law_int ["value"] (defScope s__law_int) := ⟨rfl, rfl, rfl, by decide +kernel, rfl, by decide +kernel, by decide +kernel⟩
abbrev n__law_pool : List Str := ["numbers", "total", "letters", "pool", "k", "name", "word"]
theorem sc__law_pool : FnScope n__law_pool ["numbers", "total"] (defScope s__law_pool) := ⟨rfl, rfl, rfl, by decide +kernel, rfl, by decide +kernel, by decide +kernel⟩
abbrev n__law_leaf_told : List Str := ["numbers", "names", "word", "name", "bit"]
theorem sc__law_leaf_told : FnScope n__law_leaf_told ["numbers", "names"] (defScope s__law_leaf_told) := ⟨rfl, rfl, rfl, by decide +kernel, rfl, by decide +kernel, by decide +kernel⟩
abbrev n__law_wrapped : List Str := ["numbers", "loose", "turn"]
theorem sc__law_wrapped : FnScope n__law_wrapped ["numbers", "loose"] (defScope s__law_wrapped) := ⟨rfl, rfl, rfl, by decide +kernel, rfl, by decide +kernel, by decide +kernel⟩
abbrev n__law_gap : List Str := ["numbers", "touching"]
theorem sc__law_gap : FnScope n__law_gap ["numbers", "touching"] (defScope s__law_gap) := ⟨rfl, rfl, rfl, by decide +kernel, rfl, by decide +kernel, by decide +kernel⟩
abbrev n__law_not_told : List Str := ["numbers", "part", "bare", "inner", "loose"]
theorem sc__law_not_told : FnScope n__law_not_told ["numbers", "part", "bare"] (defScope s__law_not_told) := ⟨rfl, rfl, rfl, by decide +kernel, rfl, by decide +kernel, by decide +kernel⟩
abbrev n__law_joint_told : List Str := ["numbers", "parts", "word", "text", "loose", "depth", "names", "edges", "part", "inner", "told"]
theorem sc__law_joint_told : FnScope n__law_joint_told ["numbers", "parts"] (defScope s__law_joint_told) := ⟨rfl, rfl, rfl, by decide +kernel, rfl, by decide +kernel, by decide +kernel⟩
abbrev n__law_grown : List Str := ["numbers", "names", "part", "turn", "parts", "k"]
theorem sc__law_grown : FnScope n__law_grown ["numbers", "names"] (defScope s__law_grown) := ⟨rfl, rfl, rfl, by decide +kernel, rfl, by decide +kernel, by decide +kernel⟩
abbrev n__law_each_once : List Str := ["names", "found", "name"]
theorem sc__law_each_once : FnScope n__law_each_once ["names"] (defScope s__law_each_once) := ⟨rfl, rfl, rfl, by decide +kernel, rfl, by decide +kernel, by decide +kernel⟩
abbrev n__law_good : List Str := ["part", "text", "told", "found", "names", "edges", "plain"]
theorem sc__law_good : FnScope n__law_good ["part"] (defScope s__law_good) := ⟨rfl, rfl, rfl, by decide +kernel, rfl, by decide +kernel, by decide +kernel⟩
abbrev n__law_wide_right : List Str := ["word", "names", "first", "second", "joint", "formula", "name", "text", "due"]
theorem sc__law_wide_right : FnScope n__law_wide_right ["word"] (defScope s__law_wide_right) := ⟨rfl, rfl, rfl, by decide +kernel, rfl, by decide +kernel, by decide +kernel⟩
abbrev n__law_line : List Str := ["text", "line", "wrong"]
theorem sc__law_line : FnScope n__law_line ["text"] (defScope s__law_line) := ⟨rfl, rfl, rfl, by decide +kernel, rfl, by decide +kernel, by decide +kernel⟩
abbrev n__law_refused : List Str := ["formula", "turn", "word", "wrong"]
theorem sc__law_refused : FnScope n__law_refused ["formula"] (defScope s__law_refused) := ⟨rfl, rfl, rfl, by decide +kernel, rfl, by decide +kernel, by decide +kernel⟩
abbrev n__law_bad_formulas : List Str := ["leaf", "name"]
theorem sc__law_bad_formulas : FnScope n__law_bad_formulas ["leaf", "name"] (defScope s__law_bad_formulas) := ⟨rfl, rfl, rfl, by decide +kernel, rfl, by decide +kernel, by decide +kernel⟩
abbrev n__law_bad_texts : List Str := ["text", "other", "name"]
theorem sc__law_bad_texts : FnScope n__law_bad_texts ["text", "other", "name"] (defScope s__law_bad_texts) := ⟨rfl, rfl, rfl, by decide +kernel, rfl, by decide +kernel, by decide +kernel⟩
abbrev n__law_names_right : List Str := ["names", "name", "good", "bad"]
theorem sc__law_names_right : FnScope n__law_names_right ["names", "name"] (defScope s__law_names_right) := ⟨rfl, rfl, rfl, by decide +kernel, rfl, by decide +kernel, by decide +kernel⟩
abbrev n_law : List Str := ["script", "numbers", "names", "name", "many", "part", "target", "turn", "other", "text", "formula"]
theorem sc_law : FnScope n_law ["script"] (defScope s_law) := ⟨rfl, rfl, rfl, by decide +kernel, rfl, by decide +kernel, by decide +kernel⟩
end K7

set_option Elab.async false
set_option linter.all false
set_option maxRecDepth 100000
set_option maxHeartbeats 4000000
namespace K7
open PySem PySem.Spec PyProof.Rows L2 GX NdefX
/-- the built-in names are still the built-ins -/
structure Bl (mg : Str → Option Value) : Prop where
  all : mg "all" = none
  any : mg "any" = none
  bool : mg "bool" = none
  int : mg "int" = none
  isinstance : mg "isinstance" = none
  len : mg "len" = none
  list : mg "list" = none
  max : mg "max" = none
  min : mg "min" = none
  range : mg "range" = none
  repr : mg "repr" = none
  sorted : mg "sorted" = none
  str : mg "str" = none
  tuple : mg "tuple" = none
/-- a def of the top: where it stands, how it is called -/
structure Kn (K : PySem.W.Frag) (mg : Str → Option Value) (x : Str) (st : Stmt) (ps : List Str) where
  f : Addr
  fd : FuncData
  F : Fun K x x st f fd
  b : Binds K fd ps []
  g : mg x = some (.ref f)
/-- an exception class of the top -/
structure Ke (P : Program) (K : PySem.W.Frag) (mg : Str → Option Value) (x q : Str) (st : Stmt) (ps fs : List Str) where
  C : Addr
  f : Addr
  fd : FuncData
  T : Sup P K mg C f q st fd
  b : Binds K fd ps []
  nf : ∀ y ∈ fs, PySem.W.findIn K (.ref C) y = some none
  g : mg x = some (.ref C)
  X : XfC K C
/-- a plain class of the top: its fields, its own __init__ -/
structure Kc (K : PySem.W.Frag) (mg : Str → Option Value) (x q : Str) (st : Stmt) (ps fs : List Str) where
  C : Addr
  f : Addr
  fd : FuncData
  F : Fun K "__init__" q st f fd
  b : Binds K fd ps []
  M : Mk K C f
  cl : Cls K C
  nf : ∀ y ∈ fs, NoAttr K C y
  g : mg x = some (.ref C)
/-- a method of it -/
structure Km (K : PySem.W.Frag) (C : Addr) (m q : Str) (st : Stmt) (ps : List Str) where
  f : Addr
  fd : FuncData
  F : Fun K m q st f fd
  b : Binds K fd ps []
  M : Meth K C m f
/-- a def with defaults dvs, called without the last of them -/
structure KnD (K : PySem.W.Frag) (mg : Str → Option Value) (x : Str) (st : Stmt) (ps : List Str) (dvs : List V) where
  f : Addr
  fd : FuncData
  ds : List Value
  F : FunD K x x (defArgs st) (defBody st) (defScope st) dvs [] f fd
  b : Binds K fd ps ds
  v : Vals dvs ds
  g : mg x = some (.ref f)
/-- an exception class of the top without own defs -/
structure Ka (mg : Str → Option Value) (x : Str) where
  C : Addr
  g : mg x = some (.ref C)
/-- the whole top -/
structure Pr (P : Program) (K : PySem.W.Frag) (mg : Str → Option Value) where
  B : Bl mg
  BadFormula : Ke P K mg "BadFormula" "BadFormula.__init__" s_BadFormula_init ["self"] []
  BadText : Ke P K mg "BadText" "BadText.__init__" s_BadText_init ["self", "line"] ["line"]
  x_BadFormula_BadFormula : PySem.W.exmOne K (.ref BadFormula.C) (.ref BadFormula.C) = some true
  x_BadFormula_BadText : PySem.W.exmOne K (.ref BadFormula.C) (.ref BadText.C) = some false
  x_BadText_BadFormula : PySem.W.exmOne K (.ref BadText.C) (.ref BadFormula.C) = some false
  x_BadText_BadText : PySem.W.exmOne K (.ref BadText.C) (.ref BadText.C) = some true
  e_BadFormula : L2.ExcC K BadFormula.C
  a_RungsError : Ka mg "RungsError"
  x_BadFormula_RungsError : PySem.W.exmOne K (.ref BadFormula.C) (.ref a_RungsError.C) = some true
  x_BadText_RungsError : PySem.W.exmOne K (.ref BadText.C) (.ref a_RungsError.C) = some true
  Bracket : Kc K mg "Bracket" "Bracket.__init__" s_Bracket_init ["self"] ["parts", "depth", "joint", "nots"]
  Bracket_take : Km K Bracket.C "take" "Bracket.take" s_Bracket_take ["self", "formula", "depth"]
  Bracket_whole : Km K Bracket.C "whole" "Bracket.whole" s_Bracket_whole ["self"]
  Reader : Kc K mg "Reader" "Reader.__init__" s_Reader_init ["self"] ["brackets", "edge", "wants"]
  Reader_read : Km K Reader.C "read" "Reader.read" s_Reader_read ["self", "word"]
  Reader_read_edge_name : Km K Reader.C "read_edge_name" "Reader.read_edge_name" s_Reader_read_edge_name ["self", "word"]
  Reader_read_beginning : Km K Reader.C "read_beginning" "Reader.read_beginning" s_Reader_read_beginning ["self", "word"]
  Reader_read_behind : Km K Reader.C "read_behind" "Reader.read_behind" s_Reader_read_behind ["self", "word"]
  Reader_took : Km K Reader.C "took" "Reader.took" s_Reader_took ["self", "formula", "depth"]
  k_LETTERS : ∃ t, mg "LETTERS" = some (.str "abcdefghijklmnopqrstuvwxyz" t)
  k_SIGNS : ∃ t, mg "SIGNS" = some (.str "abcdefghijklmnopqrstuvwxyz0123456789." t)
  k_WORDS : ∃ a, mg "WORDS" = some (.ref a) ∧ ∀ H : Hp, SqT K H a [.str "not", .str "and", .str "or", .str "rise", .str "fall"]
  k_EDGES : ∃ a, mg "EDGES" = some (.ref a) ∧ ∀ H : Hp, SqT K H a [.str "rise", .str "fall"]
  k_JOINTS : ∃ a, mg "JOINTS" = some (.ref a) ∧ ∀ H : Hp, SqT K H a [.str "and", .str "or"]
  k_DEEPEST : ∃ t, mg "DEEPEST" = some (.int 40 t)
  is_formula : KnD K mg "is_formula" s_is_formula ["value", "names", "depth"] [.non, .int 40]
  is_whole : Kn K mg "is_whole" s_is_whole ["value", "least", "most"]
  is_bit : Kn K mg "is_bit" s_is_bit ["value"]
  is_name : Kn K mg "is_name" s_is_name ["value"]
  _is_part : Kn K mg "_is_part" s__is_part ["part", "names"]
  check_formula : Kn K mg "check_formula" s_check_formula ["formula"]
  leaves_of : Kn K mg "leaves_of" s_leaves_of ["formula"]
  has_edges : Kn K mg "has_edges" s_has_edges ["formula"]
  is_plain : Kn K mg "is_plain" s_is_plain ["formula"]
  told_names : Kn K mg "told_names" s_told_names ["formula"]
  told_edges : Kn K mg "told_edges" s_told_edges ["formula"]
  names_of : Kn K mg "names_of" s_names_of ["formula"]
  edges_of : Kn K mg "edges_of" s_edges_of ["formula"]
  told_text : Kn K mg "told_text" s_told_text ["formula"]
  formula_text : Kn K mg "formula_text" s_formula_text ["formula"]
  read_formula : Kn K mg "read_formula" s_read_formula ["text"]
  formula_from : Kn K mg "formula_from" s_formula_from ["text"]
  _law_numbers : Kn K mg "_law_numbers" s__law_numbers ["script"]
  _law_draw : Kn K mg "_law_draw" s__law_draw ["numbers", "many"]
  _law_pool : Kn K mg "_law_pool" s__law_pool ["numbers", "total"]
  _law_leaf_told : Kn K mg "_law_leaf_told" s__law_leaf_told ["numbers", "names"]
  _law_wrapped : Kn K mg "_law_wrapped" s__law_wrapped ["numbers", "loose"]
  _law_gap : Kn K mg "_law_gap" s__law_gap ["numbers", "touching"]
  _law_not_told : Kn K mg "_law_not_told" s__law_not_told ["numbers", "part", "bare"]
  _law_joint_told : Kn K mg "_law_joint_told" s__law_joint_told ["numbers", "parts"]
  _law_grown : Kn K mg "_law_grown" s__law_grown ["numbers", "names"]
  _law_each_once : Kn K mg "_law_each_once" s__law_each_once ["names"]
  _law_good : Kn K mg "_law_good" s__law_good ["part"]
  _law_wide_right : Kn K mg "_law_wide_right" s__law_wide_right ["word"]
  _law_line : Kn K mg "_law_line" s__law_line ["text"]
  _law_refused : Kn K mg "_law_refused" s__law_refused ["formula"]
  _law_bad_formulas : Kn K mg "_law_bad_formulas" s__law_bad_formulas ["leaf", "name"]
  _law_bad_texts : Kn K mg "_law_bad_texts" s__law_bad_texts ["text", "other", "name"]
  _law_names_right : Kn K mg "_law_names_right" s__law_names_right ["names", "name"]
end K7

set_option Elab.async false
set_option linter.all false
set_option maxRecDepth 100000
set_option maxHeartbeats 4000000
namespace K7
open PySem PySem.Spec PyProof.Rows L2 GX NdefX
/-! ### formulas as trees -/
inductive Fm where
  | bit (b : Bool)
  | name (x : Str)
  | edge (r : Bool) (x : Str)
  | not (f : Fm)
  | joint (w : Bool) (fs : List Fm)
def eK (r : Bool) : Str := if r then "rise" else "fall"
def jK (w : Bool) : Str := if w then "or" else "and"
mutual
def Fm.data : Fm → PyData
  | .bit b => .tuple [.str "bit", .int (if b then 1 else 0)]
  | .name x => .tuple [.str "name", .str x]
  | .edge r x => .tuple [.str (eK r), .str x]
  | .not f => .tuple [.str "not", f.data]
  | .joint w fs => .tuple [.str (jK w), .tuple (dataL fs)]
def dataL : List Fm → List PyData
  | [] => []
  | f :: r => f.data :: dataL r
end
theorem dataL_map (l : List Fm) : dataL l = l.map Fm.data := by
  induction l with
  | nil => rfl
  | cons f r ih => rw [dataL, ih, List.map_cons]
mutual
/-- how deep -/
def Fm.dep : Fm → Nat
  | .not f => f.dep + 1
  | .joint _ fs => depL fs + 1
  | _ => 1
def depL : List Fm → Nat
  | [] => 0
  | f :: r => max f.dep (depL r)
end
mutual
/-- how many -/
def Fm.cnt : Fm → Nat
  | .not f => f.cnt + 1
  | .joint _ fs => cntL fs + 1
  | _ => 1
def cntL : List Fm → Nat
  | [] => 0
  | f :: r => f.cnt + cntL r
end
def Fm.subs : Fm → List Fm
  | .not f => [f]
  | .joint _ fs => fs
  | _ => []
theorem Fm.dep_pos (f : Fm) : 1 ≤ f.dep := by cases f <;> simp [Fm.dep]
theorem Fm.cnt_pos (f : Fm) : 1 ≤ f.cnt := by cases f <;> simp [Fm.cnt]
theorem depL_le {l : List Fm} {n : Nat} : depL l ≤ n ↔ ∀ f ∈ l, f.dep ≤ n := by
  induction l with
  | nil => simp [depL]
  | cons f r ih => simp only [depL, List.mem_cons, forall_eq_or_imp, ← ih]; omega
theorem dep_subs {f : Fm} {n : Nat} : f.dep ≤ n + 1 ↔ ∀ g ∈ f.subs, g.dep ≤ n := by
  cases f with
  | not g => simp [Fm.dep, Fm.subs]
  | joint w fs => simp only [Fm.dep, Fm.subs, ← depL_le]; omega
  | _ => simp [Fm.dep, Fm.subs]
theorem cnt_subs (f : Fm) : cntL f.subs + 1 = f.cnt := by
  cases f <;> simp [Fm.cnt, Fm.subs, cntL]
theorem cntL_app (a b : List Fm) : cntL (a ++ b) = cntL a + cntL b := by
  induction a with
  | nil => simp [cntL]
  | cons f r ih => simp only [List.cons_append, cntL, ih]; omega
theorem cntL_mem {l : List Fm} {f : Fm} (h : f ∈ l) : f.cnt ≤ cntL l := by
  induction l with
  | nil => simp at h
  | cons g r ih =>
    rcases List.mem_cons.mp h with e | e
    · subst e; simp only [cntL]; omega
    · have := ih e; simp only [cntL]; omega
/-! ### names -/
def letters : Str := "abcdefghijklmnopqrstuvwxyz"
def signs : Str := "abcdefghijklmnopqrstuvwxyz0123456789."
def wordsS : List Str := ["not", "and", "or", "rise", "fall"]
def nameB (z : Str) : Bool :=
  (decide (1 ≤ z.cps.size) && decide (z.cps.size ≤ 40) && !wordsS.any (fun y => decide (z = y))) &&
  (z.cps.toList.head?.any (fun c => decide (c ∈ letters.cps.toList)) && z.cps.toList.getLast?.all (fun c => decide (c ≠ 46)) && z.cps.toList.all (fun c => decide (c ∈ signs.cps.toList)))
mutual
/-- what the program asks of a formula -/
def Fm.ok : Fm → Bool
  | .bit _ => true
  | .name x => nameB x
  | .edge _ x => nameB x
  | .not f => f.ok
  | .joint _ fs => decide (2 ≤ fs.length) && okL fs
def okL : List Fm → Bool
  | [] => true
  | f :: r => f.ok && okL r
end
theorem okL_all {l : List Fm} : okL l = true ↔ ∀ f ∈ l, f.ok = true := by
  induction l with
  | nil => simp [okL]
  | cons f r ih => simp [okL, ih]
theorem ok_subs {f : Fm} (h : f.ok = true) : ∀ g ∈ f.subs, g.ok = true := by
  cases f with
  | not g => simpa [Fm.ok, Fm.subs] using h
  | joint w fs =>
    simp only [Fm.ok, Bool.and_eq_true] at h
    exact okL_all.mp h.2
  | _ => simp [Fm.subs]
/-! ### is_formula on any data -/
def nameD : PyData → Bool
  | .str z => nameB z
  | _ => false
def bitD : PyData → Bool
  | .int i => decide (0 ≤ i ∧ i ≤ 1)
  | _ => false
def manyD : PyData → Bool
  | .tuple xs => decide (1 < xs.length)
  | _ => false
def partK (k : Str) (x : PyData) : Bool :=
  if k = "not" then true else if k = "and" ∨ k = "or" then manyD x else if k = "bit" then bitD x else if k = "name" ∨ k = "rise" ∨ k = "fall" then nameD x else false
def partD : PyData → Bool
  | .tuple [.str k, x] => partK k x
  | _ => false
/-- a tuple of two has a text in front, and beside "bit" a whole number or a bool -/
def domD : PyData → Bool
  | .tuple [.str k, x] => (k != "bit") || (match x with | .int _ => true | .bool _ => true | _ => false)
  | .tuple [_, _] => false
  | .dict _ => false
  | _ => true
def itemsD : PyData → List PyData
  | .tuple xs => xs
  | _ => []
def belowD : PyData → List PyData
  | .tuple [.str k, x] => if k = "not" then [x] else if k = "and" ∨ k = "or" then itemsD x else []
  | _ => []
def formL : Nat → List PyData → Bool
  | 0, _ => false
  | n + 1, l => l.all partD && (if l.flatMap belowD = [] then true else formL n (l.flatMap belowD))
def domL : Nat → List PyData → Bool
  | 0, _ => true
  | n + 1, l => l.all domD && (!l.all partD || domL n (l.flatMap belowD))
@[simp] theorem kn_not_and : ((Str.ofString "not" : Str) = Str.ofString "and") = False := eq_false (by decide +kernel)
@[simp] theorem kn_not_or : ((Str.ofString "not" : Str) = Str.ofString "or") = False := eq_false (by decide +kernel)
@[simp] theorem kn_not_bit : ((Str.ofString "not" : Str) = Str.ofString "bit") = False := eq_false (by decide +kernel)
@[simp] theorem kn_not_name : ((Str.ofString "not" : Str) = Str.ofString "name") = False := eq_false (by decide +kernel)
@[simp] theorem kn_not_rise : ((Str.ofString "not" : Str) = Str.ofString "rise") = False := eq_false (by decide +kernel)
@[simp] theorem kn_not_fall : ((Str.ofString "not" : Str) = Str.ofString "fall") = False := eq_false (by decide +kernel)
@[simp] theorem kn_and_not : ((Str.ofString "and" : Str) = Str.ofString "not") = False := eq_false (by decide +kernel)
@[simp] theorem kn_and_or : ((Str.ofString "and" : Str) = Str.ofString "or") = False := eq_false (by decide +kernel)
@[simp] theorem kn_and_bit : ((Str.ofString "and" : Str) = Str.ofString "bit") = False := eq_false (by decide +kernel)
@[simp] theorem kn_and_name : ((Str.ofString "and" : Str) = Str.ofString "name") = False := eq_false (by decide +kernel)
@[simp] theorem kn_and_rise : ((Str.ofString "and" : Str) = Str.ofString "rise") = False := eq_false (by decide +kernel)
@[simp] theorem kn_and_fall : ((Str.ofString "and" : Str) = Str.ofString "fall") = False := eq_false (by decide +kernel)
@[simp] theorem kn_or_not : ((Str.ofString "or" : Str) = Str.ofString "not") = False := eq_false (by decide +kernel)
@[simp] theorem kn_or_and : ((Str.ofString "or" : Str) = Str.ofString "and") = False := eq_false (by decide +kernel)
@[simp] theorem kn_or_bit : ((Str.ofString "or" : Str) = Str.ofString "bit") = False := eq_false (by decide +kernel)
@[simp] theorem kn_or_name : ((Str.ofString "or" : Str) = Str.ofString "name") = False := eq_false (by decide +kernel)
@[simp] theorem kn_or_rise : ((Str.ofString "or" : Str) = Str.ofString "rise") = False := eq_false (by decide +kernel)
@[simp] theorem kn_or_fall : ((Str.ofString "or" : Str) = Str.ofString "fall") = False := eq_false (by decide +kernel)
@[simp] theorem kn_bit_not : ((Str.ofString "bit" : Str) = Str.ofString "not") = False := eq_false (by decide +kernel)
@[simp] theorem kn_bit_and : ((Str.ofString "bit" : Str) = Str.ofString "and") = False := eq_false (by decide +kernel)
@[simp] theorem kn_bit_or : ((Str.ofString "bit" : Str) = Str.ofString "or") = False := eq_false (by decide +kernel)
@[simp] theorem kn_bit_name : ((Str.ofString "bit" : Str) = Str.ofString "name") = False := eq_false (by decide +kernel)
@[simp] theorem kn_bit_rise : ((Str.ofString "bit" : Str) = Str.ofString "rise") = False := eq_false (by decide +kernel)
@[simp] theorem kn_bit_fall : ((Str.ofString "bit" : Str) = Str.ofString "fall") = False := eq_false (by decide +kernel)
@[simp] theorem kn_name_not : ((Str.ofString "name" : Str) = Str.ofString "not") = False := eq_false (by decide +kernel)
@[simp] theorem kn_name_and : ((Str.ofString "name" : Str) = Str.ofString "and") = False := eq_false (by decide +kernel)
@[simp] theorem kn_name_or : ((Str.ofString "name" : Str) = Str.ofString "or") = False := eq_false (by decide +kernel)
@[simp] theorem kn_name_bit : ((Str.ofString "name" : Str) = Str.ofString "bit") = False := eq_false (by decide +kernel)
@[simp] theorem kn_name_rise : ((Str.ofString "name" : Str) = Str.ofString "rise") = False := eq_false (by decide +kernel)
@[simp] theorem kn_name_fall : ((Str.ofString "name" : Str) = Str.ofString "fall") = False := eq_false (by decide +kernel)
@[simp] theorem kn_rise_not : ((Str.ofString "rise" : Str) = Str.ofString "not") = False := eq_false (by decide +kernel)
@[simp] theorem kn_rise_and : ((Str.ofString "rise" : Str) = Str.ofString "and") = False := eq_false (by decide +kernel)
@[simp] theorem kn_rise_or : ((Str.ofString "rise" : Str) = Str.ofString "or") = False := eq_false (by decide +kernel)
@[simp] theorem kn_rise_bit : ((Str.ofString "rise" : Str) = Str.ofString "bit") = False := eq_false (by decide +kernel)
@[simp] theorem kn_rise_name : ((Str.ofString "rise" : Str) = Str.ofString "name") = False := eq_false (by decide +kernel)
@[simp] theorem kn_rise_fall : ((Str.ofString "rise" : Str) = Str.ofString "fall") = False := eq_false (by decide +kernel)
@[simp] theorem kn_fall_not : ((Str.ofString "fall" : Str) = Str.ofString "not") = False := eq_false (by decide +kernel)
@[simp] theorem kn_fall_and : ((Str.ofString "fall" : Str) = Str.ofString "and") = False := eq_false (by decide +kernel)
@[simp] theorem kn_fall_or : ((Str.ofString "fall" : Str) = Str.ofString "or") = False := eq_false (by decide +kernel)
@[simp] theorem kn_fall_bit : ((Str.ofString "fall" : Str) = Str.ofString "bit") = False := eq_false (by decide +kernel)
@[simp] theorem kn_fall_name : ((Str.ofString "fall" : Str) = Str.ofString "name") = False := eq_false (by decide +kernel)
@[simp] theorem kn_fall_rise : ((Str.ofString "fall" : Str) = Str.ofString "rise") = False := eq_false (by decide +kernel)
theorem below_data (f : Fm) : belowD f.data = f.subs.map Fm.data := by
  cases f with
  | bit b => simp [Fm.data, belowD, Fm.subs]
  | name x => simp [Fm.data, belowD, Fm.subs]
  | edge r x => cases r <;> simp [Fm.data, belowD, Fm.subs, eK]
  | not g => simp [Fm.data, belowD, Fm.subs]
  | joint w fs => cases w <;> simp [Fm.data, belowD, Fm.subs, jK, itemsD, dataL_map]
theorem part_data {f : Fm} (h : f.ok = true) : partD f.data = true := by
  cases f with
  | bit b => cases b <;> simp [Fm.data, partD, partK, bitD]
  | name x => simp [Fm.data, partD, partK, nameD]; exact h
  | edge r x => cases r <;> (simp [Fm.data, partD, partK, nameD, eK]; exact h)
  | not g => simp [Fm.data, partD, partK]
  | joint w fs =>
    have h2 : 2 ≤ fs.length := by simp only [Fm.ok, Bool.and_eq_true, decide_eq_true_eq] at h; exact h.1
    cases w <;> (simp [Fm.data, partD, partK, jK, dataL_map, manyD]; omega)
theorem dom_data (f : Fm) : domD f.data = true := by
  cases f with
  | bit b => simp [Fm.data, domD]
  | name x => simp [Fm.data, domD, bne, BEq.beq]
  | edge r x => cases r <;> simp [Fm.data, domD, eK, bne, BEq.beq]
  | not g => simp [Fm.data, domD, bne, BEq.beq]
  | joint w fs => cases w <;> simp [Fm.data, domD, jK, bne, BEq.beq]
theorem below_list (l : List Fm) : (l.map Fm.data).flatMap belowD = (l.flatMap Fm.subs).map Fm.data := by
  induction l with
  | nil => rfl
  | cons f r ih => simp only [List.map_cons, List.flatMap_cons, ih, below_data, List.map_append]
theorem formL_data (n : Nat) : ∀ l : List Fm, l ≠ [] → (∀ f ∈ l, f.ok = true) → formL n (l.map Fm.data) = decide (depL l ≤ n) := by
  induction n with
  | zero =>
    intro l ne _
    cases l with
    | nil => exact absurd rfl ne
    | cons f r => exact (decide_eq_false (by have := f.dep_pos; simp only [depL]; omega)).symm
  | succ n ih =>
    intro l ne ok
    have allp : (l.map Fm.data).all partD = true := List.all_eq_true.mpr fun d m => by
      obtain ⟨f, mf, rfl⟩ := List.mem_map.mp m
      exact part_data (ok f mf)
    rw [formL, allp, Bool.true_and, below_list]
    by_cases e : l.flatMap Fm.subs = []
    · rw [e, List.map_nil, if_pos rfl]
      refine (decide_eq_true (depL_le.mpr fun f mf => dep_subs.mpr fun g mg => ?_)).symm
      have : g ∈ l.flatMap Fm.subs := List.mem_flatMap.mpr ⟨f, mf, mg⟩
      rw [e] at this; simp at this
    · rw [if_neg (by simpa using e), ih _ e fun g mg => ?_]
      · refine decide_eq_decide.mpr ⟨fun h => depL_le.mpr fun f mf => dep_subs.mpr fun g mg => depL_le.mp h g (List.mem_flatMap.mpr ⟨f, mf, mg⟩), fun h => depL_le.mpr fun g mg => ?_⟩
        obtain ⟨f, mf, mg⟩ := List.mem_flatMap.mp mg
        exact dep_subs.mp (depL_le.mp h f mf) g mg
      · obtain ⟨f, mf, mg⟩ := List.mem_flatMap.mp mg
        exact ok_subs (ok f mf) g mg
theorem domL_data (n : Nat) : ∀ l : List Fm, domL n (l.map Fm.data) = true := by
  induction n with
  | zero => intro l; rfl
  | succ n ih =>
    intro l
    have alld : (l.map Fm.data).all domD = true := List.all_eq_true.mpr fun d m => by
      obtain ⟨f, -, rfl⟩ := List.mem_map.mp m
      exact dom_data f
    rw [domL, alld, below_list, ih, Bool.or_true, Bool.true_and]
mutual
def wtD : PyData → Nat
  | .tuple xs => wtL xs + 1
  | .list xs => wtL xs + 1
  | _ => 1
def wtL : List PyData → Nat
  | [] => 0
  | d :: r => wtD d + wtL r
end
mutual
def strD : PyData → Bool
  | .str z => decide (z.cps.size ≤ 1000000)
  | .tuple xs => strL xs
  | .list xs => strL xs
  | _ => true
def strL : List PyData → Bool
  | [] => true
  | d :: r => strD d && strL r
end
theorem wtD_pos (d : PyData) : 1 ≤ wtD d := by cases d <;> simp [wtD]
theorem wtL_app (a b : List PyData) : wtL (a ++ b) = wtL a + wtL b := by
  induction a with
  | nil => simp [wtL]
  | cons f r ih => simp only [List.cons_append, wtL, ih]; omega
theorem wtL_len (l : List PyData) : l.length ≤ wtL l := by
  induction l with
  | nil => simp [wtL]
  | cons d r ih => have := wtD_pos d; simp only [List.length_cons, wtL]; omega
theorem strL_all {l : List PyData} : strL l = true ↔ ∀ d ∈ l, strD d = true := by
  induction l with
  | nil => simp [strL]
  | cons d r ih => simp [strL, ih]
/-- a part's two items -/
theorem part_inv {d : PyData} (h : partD d = true) : ∃ k x, d = .tuple [.str k, x] ∧ partK k x = true := by
  match d, h with
  | .tuple [.str k, x], h => exact ⟨k, x, rfl, h⟩
theorem many_inv {d : PyData} (h : manyD d = true) : ∃ xs, d = .tuple xs := by
  match d, h with
  | .tuple xs, _ => exact ⟨xs, rfl⟩
theorem partK_many {k : Str} {x : PyData} (h : partK k x = true) (e : k = "and" ∨ k = "or") : ∃ xs, x = .tuple xs := by
  unfold partK at h
  have n1 : ¬ k = "not" := by rcases e with e | e <;> simp [e]
  rw [if_neg n1, if_pos e] at h
  exact many_inv h
theorem wt_below (d : PyData) : wtL (belowD d) ≤ wtD d := by
  unfold belowD
  split
  · split
    · simp only [wtL, wtD]; omega
    · split
      · rename_i k x _ _
        cases x <;> simp only [itemsD, wtL, wtD] <;> omega
      · simp [wtL]
  · simp [wtL]
theorem wt_belowL (l : List PyData) : wtL (l.flatMap belowD) ≤ wtL l := by
  induction l with
  | nil => simp [wtL]
  | cons d r ih => have := wt_below d; simp only [List.flatMap_cons, wtL_app, wtL]; omega
theorem str_below {d : PyData} (h : strD d = true) : ∀ e ∈ belowD d, strD e = true := by
  unfold belowD
  split
  · rename_i k x
    have h2 : strD x = true := by
      simp only [strD, strL, Bool.and_eq_true] at h
      exact h.2.1
    split
    · intro e me; rw [List.mem_singleton.mp me]; exact h2
    · split
      · intro e me
        cases x with
        | tuple xs => simp only [strD] at h2; exact strL_all.mp h2 e me
        | _ => simp [itemsD] at me
      · simp
  · simp
/-! ### leaves -/
mutual
def Fm.lvs : Fm → List Fm
  | .not f => f.lvs
  | .joint _ fs => lvsL fs
  | .bit b => [.bit b]
  | .name x => [.name x]
  | .edge r x => [.edge r x]
def lvsL : List Fm → List Fm
  | [] => []
  | f :: r => f.lvs ++ lvsL r
end
theorem lvsL_app (a b : List Fm) : lvsL (a ++ b) = lvsL a ++ lvsL b := by
  induction a with
  | nil => rfl
  | cons f r ih => simp only [List.cons_append, lvsL, ih, List.append_assoc]
/-- a leaf as a dict's key -/
def Fm.key : Fm → List L2.Key
  | .bit b => [.inr "bit", .inl (if b then 1 else 0)]
  | .name x => [.inr "name", .inr x]
  | .edge r x => [.inr (eK r), .inr x]
  | _ => []
def Fm.isLeaf : Fm → Bool
  | .not _ => false
  | .joint _ _ => false
  | _ => true
mutual
theorem lvs_leaf : ∀ f : Fm, ∀ g ∈ f.lvs, g.isLeaf = true
  | .bit b, g, h => by simp only [Fm.lvs, List.mem_singleton] at h; subst h; rfl
  | .name x, g, h => by simp only [Fm.lvs, List.mem_singleton] at h; subst h; rfl
  | .edge r x, g, h => by simp only [Fm.lvs, List.mem_singleton] at h; subst h; rfl
  | .not f, g, h => lvs_leaf f g (by simpa only [Fm.lvs] using h)
  | .joint w fs, g, h => lvsL_leaf fs g (by simpa only [Fm.lvs] using h)
theorem lvsL_leaf : ∀ fs : List Fm, ∀ g ∈ lvsL fs, g.isLeaf = true
  | [], g, h => by simp [lvsL] at h
  | f :: r, g, h => by
    simp only [lvsL] at h
    rcases List.mem_append.mp h with h | h
    · exact lvs_leaf f g h
    · exact lvsL_leaf r g h
end
mutual
theorem lvs_ok : ∀ f : Fm, f.ok = true → ∀ g ∈ f.lvs, g.ok = true
  | .bit b, o, g, h => by simp only [Fm.lvs, List.mem_singleton] at h; subst h; exact o
  | .name x, o, g, h => by simp only [Fm.lvs, List.mem_singleton] at h; subst h; exact o
  | .edge r x, o, g, h => by simp only [Fm.lvs, List.mem_singleton] at h; subst h; exact o
  | .not f, o, g, h => lvs_ok f (by simpa only [Fm.ok] using o) g (by simpa only [Fm.lvs] using h)
  | .joint w fs, o, g, h => lvsL_ok fs (by simp only [Fm.ok, Bool.and_eq_true] at o; exact o.2) g (by simpa only [Fm.lvs] using h)
theorem lvsL_ok : ∀ fs : List Fm, okL fs = true → ∀ g ∈ lvsL fs, g.ok = true
  | [], _, g, h => by simp [lvsL] at h
  | f :: r, o, g, h => by
    simp only [lvsL] at h
    simp only [okL, Bool.and_eq_true] at o
    rcases List.mem_append.mp h with h | h
    · exact lvs_ok f o.1 g h
    · exact lvsL_ok r o.2 g h
end
mutual
theorem lvs_cnt : ∀ f : Fm, f.lvs.length ≤ f.cnt
  | .bit _ => by simp [Fm.lvs, Fm.cnt]
  | .name _ => by simp [Fm.lvs, Fm.cnt]
  | .edge _ _ => by simp [Fm.lvs, Fm.cnt]
  | .not f => by have := lvs_cnt f; simp only [Fm.lvs, Fm.cnt]; omega
  | .joint _ fs => by have := lvsL_cnt fs; simp only [Fm.lvs, Fm.cnt]; omega
theorem lvsL_cnt : ∀ fs : List Fm, (lvsL fs).length ≤ cntL fs
  | [] => by simp [lvsL]
  | f :: r => by have := lvs_cnt f; have := lvsL_cnt r; simp only [lvsL, cntL, List.length_append]; omega
end
theorem leaf_lvs {f : Fm} (h : f.isLeaf = true) : f.lvs = [f] ∧ f.subs = [] := by
  cases f <;> first | exact ⟨rfl, rfl⟩ | cases h
theorem subs_lvs {f : Fm} (h : f.isLeaf = false) : lvsL f.subs = f.lvs := by
  cases f with
  | not g => simp [Fm.subs, Fm.lvs, lvsL]
  | joint w fs => rfl
  | _ => cases h
/-- the keys of a dict that was put one more -/
theorem keys_put {κ : Type} [DecidableEq κ] (kvs : List (κ × V)) (k j : κ) (v : V) : j ∈ (putK kvs k v).map (·.1) ↔ j ∈ kvs.map (·.1) ∨ j = k := by
  unfold putK
  split
  · rename_i h
    obtain ⟨p, mp, ep⟩ := List.any_eq_true.mp h
    have ep := of_decide_eq_true ep
    have e : (kvs.map fun kv => if kv.1 = k then (kv.1, v) else kv).map (·.1) = kvs.map (·.1) := by
      rw [List.map_map]
      exact List.map_congr_left fun q _ => by show (if q.1 = k then (q.1, v) else q).1 = q.1; split <;> rfl
    rw [e]
    exact ⟨.inl, fun z => z.elim id fun e => List.mem_map.mpr ⟨p, mp, ep.trans e.symm⟩⟩
  · rw [List.map_append, List.mem_append]
    simp
theorem len_put {κ : Type} [DecidableEq κ] (kvs : List (κ × V)) (k : κ) (v : V) : (putK kvs k v).length ≤ kvs.length + 1 := by
  unfold putK
  split
  · rw [List.length_map]; omega
  · rw [List.length_append]; simp
end K7

set_option Elab.async false
set_option linter.all false
set_option maxRecDepth 100000
set_option maxHeartbeats 4000000
namespace K7
open PySem PySem.Spec PyProof.Rows L2 GX NdefX
/-! ### data that lie on the tracked heap -/
mutual
inductive Dh (H : Hp) : V → PyData → Prop
  | non : Dh H .non .none
  | bl (b : Bool) : Dh H (.bl b) (.bool b)
  | int (i : Int) : Dh H (.int i) (.int i)
  | str (x : Str) : Dh H (.str x) (.str x)
  | lst {a : Addr} {xs : List V} {ds : List PyData} : H a = some (.lst xs) → DhAll H xs ds → Dh H (.ref a) (.list ds)
  | tup {a : Addr} {xs : List V} {ds : List PyData} : H a = some (.tup xs) → DhAll H xs ds → Dh H (.ref a) (.tuple ds)
inductive DhAll (H : Hp) : List V → List PyData → Prop
  | nil : DhAll H [] []
  | cons {v : V} {vs : List V} {d : PyData} {ds : List PyData} : Dh H v d → DhAll H vs ds → DhAll H (v :: vs) (d :: ds)
end
mutual
theorem Dh.same {H H1 : Hp} (s : Same H H1) : ∀ (d : PyData) (v : V), Dh H v d → Dh H1 v d
  | .none, _, .non => .non
  | .bool _, _, .bl b => .bl b
  | .int _, _, .int i => .int i
  | .str _, _, .str x => .str x
  | .list ds, _, .lst e h => .lst (s _ _ e) (DhAll.same s ds _ h)
  | .tuple ds, _, .tup e h => .tup (s _ _ e) (DhAll.same s ds _ h)
theorem DhAll.same {H H1 : Hp} (s : Same H H1) : ∀ (ds : List PyData) (vs : List V), DhAll H vs ds → DhAll H1 vs ds
  | [], _, .nil => .nil
  | d :: ds, _, .cons h t => .cons (Dh.same s d _ h) (DhAll.same s ds _ t)
end
mutual
theorem Dh.dp {K : PySem.W.Frag} {H : Hp} : ∀ (d : PyData) (v : V), Dh H v d → Dp K H v d
  | .none, _, .non => .non
  | .bool _, _, .bl b => .bl b
  | .int _, _, .int i => .int i
  | .str _, _, .str x => .str x
  | .list ds, _, .lst e h => .lst (.inl (.inl e)) (DhAll.dp ds _ h)
  | .tuple ds, _, .tup e h => .tup (.inl (.inl e)) (DhAll.dp ds _ h)
theorem DhAll.dp {K : PySem.W.Frag} {H : Hp} : ∀ (ds : List PyData) (vs : List V), DhAll H vs ds → DpAll K H vs ds
  | [], _, .nil => .nil
  | d :: ds, _, .cons h t => .cons (Dh.dp d _ h) (DhAll.dp ds _ t)
end
theorem DhAll.length {H : Hp} : ∀ (ds : List PyData) (vs : List V), DhAll H vs ds → vs.length = ds.length
  | [], _, .nil => rfl
  | _ :: ds, _, .cons _ t => congrArg Nat.succ (DhAll.length ds _ t)
theorem DhAll.app {H : Hp} : ∀ (ds es : List PyData) (vs ws : List V), DhAll H vs ds → DhAll H ws es → DhAll H (vs ++ ws) (ds ++ es)
  | [], _, _, _, .nil, h => h
  | _ :: ds, es, _, ws, .cons h t, k => .cons h (DhAll.app ds es _ ws t k)
/-- the type's name -/
def tyN : PyData → String
  | .none => "NoneType"
  | .bool _ => "bool"
  | .int _ => "int"
  | .str _ => "str"
  | .list _ => "list"
  | .tuple _ => "tuple"
  | .dict _ => "dict"
def isStrD : PyData → Bool
  | .str _ => true
  | _ => false
def isTupD : PyData → Bool
  | .tuple _ => true
  | _ => false
theorem Dh.ty {K : PySem.W.Frag} {H : Hp} {v : V} {d : PyData} (h : Dh H v d) : TyX K H v (.type (tyN d)) := by
  cases h with
  | non => exact .base .non
  | bl b => exact .base (.bl b)
  | int i => exact .base (.int i)
  | str x => exact .base (.str x)
  | lst e _ => exact .base (.lst e)
  | tup e _ => exact .base (.tup e)
theorem kit_str {K : PySem.W.Frag} {H : Hp} {v : V} {d : PyData} (h : Dh H v d) : PySem.W.kitOne K (.type (tyN d)) (.type "str") = some (isStrD d) := by
  cases h <;> (simp only [tyN, isStrD]; exact kit_ty (by decide +kernel))
theorem kit_tup {K : PySem.W.Frag} {H : Hp} {v : V} {d : PyData} (h : Dh H v d) : PySem.W.kitOne K (.type (tyN d)) (.type "tuple") = some (isTupD d) := by
  cases h <;> (simp only [tyN, isTupD]; exact kit_ty (by decide +kernel))
theorem strEq (k y : Str) : decide (V.str k = V.str y) = decide (k = y) := decide_eq_decide.mpr ⟨fun e => V.str.inj e, fun e => e ▸ rfl⟩
theorem inStr (z : Str) (l : List Str) : inV (.str z) (l.map V.str) = l.any (fun y => decide (z = y)) := by
  unfold inV
  rw [List.any_map]
  congr 1
  funext y
  show eqV (.str y) (.str z) = _
  show (y == z) = decide (z = y)
  by_cases e : z = y
  · subst e; simp
  · rw [decide_eq_false e]
    exact beq_false_of_ne fun q => e q.symm
/-- [e for c in j], j a name that holds a text -/
def tMapStr (j c : Nat) (te : TE) : TE := fun σ H Q => ∃ (z : Str) (vals : Nat → V), σ[j]? = some (some (.str z)) ∧ z.cps.size ≤ 4000 ∧
  (∀ (i : Nat) (cc : Nat) (H2 : Hp) (Qk : VK), z.cps[i]? = some cc → Same H H2 → (∀ H4, Same H2 H4 → Qk (vals cc) H4) → te (σ.set c (some (.str ⟨#[cc]⟩))) H2 Qk) ∧
  ∀ D H', H D = none → Same H H' → H' D = some (.lst (z.cps.toList.map vals)) → Q (.ref D) H'
theorem map_getN (f : Nat → V) : ∀ xs : List Nat, (List.range xs.length).map (fun i => f (xs.getD i 0)) = xs.map f
  | [] => rfl
  | x :: r => by
    rw [List.length_cons, List.range_succ_eq_map, List.map_cons, List.map_map, List.map_cons]
    exact congrArg (f x :: ·) (map_getN f r)
theorem tMapStr_ok {j c : Nat} {te : TE} {σ : L2.St} {H : Hp} {Q : VK} (h : tMapStr j c te σ H Q) : tLc (iStr (tVar j)) (gName c) tYes te [c] σ H Q := by
  obtain ⟨z, vals, hj, hn, turn, done⟩ := h
  refine ⟨.str z, hj, z, rfl, fun D nD => lcMap (g := gName c) (te := te) (vs := [c]) (σ := σ) (n := z.cps.size) (fun i => vals (z.cps.toList.getD i 0)) nD hn (fun i H2 h s => h) (fun H2 s => Nat.le_refl _) (fun i x H2 H' Qk Qn h s y hk => ?_) (fun H2 s e => ?_)⟩
  · obtain ⟨e0, cc, hcc, rfl⟩ := y
    subst e0
    show wipe ((wipe σ [c]).set c (some (.str ⟨#[cc]⟩))) [c] = wipe σ [c] ∧ (if true = true then te ((wipe σ [c]).set c (some (.str ⟨#[cc]⟩))) H' Qk else Qn H')
    rw [wipe1, wipe2]
    refine ⟨rfl, iteT (turn i cc _ Qk hcc s fun H4 s4 => ?_)⟩
    have q := hk H4 s4
    have e : z.cps.toList.getD i 0 = cc := by
      rw [List.getD_eq_getElem?_getD, Array.getElem?_toList, hcc]
      rfl
    rw [e] at q
    exact q
  · refine done D H2 nD s ?_
    rw [e, ← Array.length_toList, map_getN]
theorem atI_last' {xs : List Nat} {c : Nat} (h : xs.getLast? = some c) : atI xs (-1) = some c := by
  rw [List.getLast?_eq_getElem?] at h
  unfold atI ixN
  have hl : 0 < xs.length := by
    cases xs with
    | nil => simp at h
    | cons _ _ => simp
  rw [if_neg (by omega), if_pos (by omega)]
  show xs[((-1 : Int) + (xs.length : Int)).toNat]? = some c
  rw [show ((-1 : Int) + (xs.length : Int)).toNat = xs.length - 1 by omega]
  exact h
theorem atI_head {xs : List Nat} {c : Nat} (h : xs.head? = some c) : atI xs 0 = some c := by
  cases xs with
  | nil => simp at h
  | cons x r =>
    exact (atI_nat (j := 0) (show (x :: r)[0]? = some x from rfl)).trans h
theorem str1_ne {c : Nat} (h : c ≠ 46) : (V.str ⟨#[c]⟩ : V) ≠ .str "." := fun e => by
  have e := V.str.inj e
  have e2 : (#[c] : Array Nat) = #[46] := congrArg Str.cps e
  exact h (by simpa using e2)
end K7

set_option Elab.async false
set_option linter.all false
set_option maxRecDepth 100000
set_option maxHeartbeats 4000000
namespace K7
open PySem PySem.Spec PyProof.Rows L2 GX NdefX
def spWhole : Sp := fun vs H Q _ => ∃ (x : V) (l m : Int), vs = [x, .int l, .int m] ∧ ((∃ i, x = .int i) ∨ ∃ b, x = .bl b) ∧ Q (.bl (wholeV l m x)) H
def spBit : Sp := fun vs H Q _ => ∃ (x : V), vs = [x] ∧ ((∃ i, x = .int i ∧ Q (.bl (decide (0 ≤ i ∧ i ≤ 1))) H) ∨ ∃ b, x = .bl b ∧ Q (.bl false) H)
def spName : Sp := fun vs H Q _ => ∃ (v : V) (d : PyData), vs = [v] ∧ Dh H v d ∧ (∀ z, d = .str z → z.cps.size ≤ 1000000) ∧ ∀ H1, Same H H1 → Q (.bl (nameD d)) H1
def spPart : Sp := fun vs H Q _ => ∃ (v : V) (d : PyData), vs = [v, .non] ∧ Dh H v d ∧ domD d = true ∧ (∀ k z, d = .tuple [k, .str z] → z.cps.size ≤ 1000000) ∧ ∀ H1, Same H H1 → Q (.bl (partD d)) H1
section
variable {P : Program} {w : World} {K : PySem.W.Frag} {mg : Str → Option Value} {base : Heap}
theorem ok_whole {k : Nat} (D : Pr P K mg) : FnOk P w K mg base CX0 (k + 1) D.is_whole.f D.is_whole.fd ["value", "least", "most"] spWhole := by
  refine D.is_whole.F.ok sc_is_whole (fun vs H Q E h => ?_) (fun cdv A outer s H vs Q E hr h => ?_)
  · obtain ⟨x, l, m, rfl, _⟩ := h
    rfl
  · obtain ⟨x, l, m, rfl, hx, q⟩ := h
    refine ⟨_, (pss_cons (ps_if (PW.pt (pw_or (pt_not (pt_val (pe_callB call_isi (by rfl) D.B.isinstance (by decide +kernel) (pa_cons (pv 0) (pa_cons (pe_bltn (v := .ty "int") (u := .type "int") (by rfl) D.B.int (by decide +kernel) rfl) pa_nil))))) (pw_or1 (pt_val (pe_callB call_isi (by rfl) D.B.isinstance (by decide +kernel) (pa_cons (pv 0) (pa_cons (pe_bltn (v := .ty "bool") (u := .type "bool") (by rfl) D.B.bool (by decide +kernel) rfl) pa_nil))))))) (pss_one (ps_ret pe_bl)) pss_nil)
      (pss_one (ps_ret (pe_and (pe_cmpR op_le (pv 1) (pv 0) (nomark _)) (pe_one (pe_or (pe_cmpR op_isN (pv 2) pe_non (nomark _)) (pe_one (pe_cmpR op_le (pv 0) (pv 2) (nomark _))))))))), ?_⟩
    rcases hx with ⟨i, rfl⟩ | ⟨b, rfl⟩
    · refine ⟨_, rfl, _, _, .type "int", _, true, rfl, .ty "int", .base (.int i), kit_ty (by decide +kernel), true, rfl, iteF ?_⟩
      refine ⟨_, rfl, _, _, .type "int", _, false, rfl, .ty "bool", .base (.int i), kit_ty (by decide +kernel), false, rfl, iteF ?_⟩
      refine ⟨_, rfl, _, rfl, _, _, rfl, rfl, _, rfl, ?_⟩
      have q : Q (.bl (decide (l ≤ i) && decide (i ≤ m))) H := q
      by_cases h1 : l ≤ i
      · rw [decide_eq_true h1] at q ⊢
        refine iteT ⟨_, rfl, rfl, false, rfl, iteF ⟨_, rfl, _, rfl, _, _, rfl, rfl, ?_⟩⟩
        rw [Bool.true_and] at q
        exact q
      · rw [decide_eq_false h1] at q ⊢
        exact iteF q
    · refine ⟨_, rfl, _, _, .type "bool", _, true, rfl, .ty "int", .base (.bl b), kit_ty (by decide +kernel), true, rfl, iteF ?_⟩
      refine ⟨_, rfl, _, _, .type "bool", _, true, rfl, .ty "bool", .base (.bl b), kit_ty (by decide +kernel), true, rfl, iteT q⟩
theorem ok_bit {k : Nat} (D : Pr P K mg) : FnOk P w K mg base CX0 (k + 2) D.is_bit.f D.is_bit.fd ["value"] spBit := by
  have G_is_whole : FnOk P w K mg base CX0 (k + 1) D.is_whole.f D.is_whole.fd ["value", "least", "most"] spWhole := ok_whole D
  refine D.is_bit.F.ok sc_is_bit (fun vs H Q E h => ?_) (fun cdv A outer s H vs Q E hr h => ?_)
  · obtain ⟨x, rfl, _⟩ := h
    rfl
  · obtain ⟨x, rfl, q⟩ := h
    refine ⟨_, (pss_one (ps_ret (pe_call G_is_whole (hr.mono (by omega)) (by rfl) D.is_whole.g D.is_whole.F.kp D.is_whole.b .nil pass0 (pa_cons (pv 0) (pa_cons pe_int (pa_cons pe_int pa_nil)))))), ?_⟩
    rcases q with ⟨i, rfl, q⟩ | ⟨b, rfl, q⟩
    · refine ⟨.int i, rfl, .int i, 0, 1, rfl, .inl ⟨i, rfl⟩, ?_⟩
      rw [show wholeV 0 1 (.int i) = decide (0 ≤ i ∧ i ≤ 1) from Bool.decide_and ..|>.symm]
      exact q
    · exact ⟨.bl b, rfl, .bl b, 0, 1, rfl, .inr ⟨b, rfl⟩, q⟩
theorem head_sz {z : Str} (h : 1 ≤ z.cps.size) : ∃ c, z.cps.toList.head? = some c := by
  cases e : z.cps.toList with
  | nil => have : z.cps.toList.length = 0 := by rw [e]; rfl
           rw [Array.length_toList] at this; omega
  | cons c r => exact ⟨c, rfl⟩
theorem last_sz {z : Str} (h : 1 ≤ z.cps.size) : ∃ c, z.cps.toList.getLast? = some c := by
  cases e : z.cps.toList.getLast? with
  | none => have : z.cps.toList = [] := List.getLast?_eq_none_iff.mp e
            have : z.cps.toList.length = 0 := by rw [this]; rfl
            rw [Array.length_toList] at this; omega
  | some c => exact ⟨c, rfl⟩
theorem ok_name {k : Nat} (D : Pr P K mg) : FnOk P w K mg base CX0 (k + 1) D.is_name.f D.is_name.fd ["value"] spName := by
  obtain ⟨tL, m_LETTERS⟩ := D.k_LETTERS
  obtain ⟨tS, m_SIGNS⟩ := D.k_SIGNS
  obtain ⟨a_WORDS, m_WORDS, hW⟩ := D.k_WORDS
  refine D.is_name.F.ok sc_is_name (fun vs H Q E h => ?_) (fun cdv A outer s H vs Q E hr h => ?_)
  · obtain ⟨v, d, rfl, _⟩ := h
    rfl
  · obtain ⟨v, d, rfl, hd, hz, q⟩ := h
    refine ⟨_, (pss_cons (ps_if (PW.pt (pw_or (pt_not (pt_val (pe_callB call_isi (by rfl) D.B.isinstance (by decide +kernel) (pa_cons (pv 0) (pa_cons (pe_bltn (v := .ty "str") (u := .type "str") (by rfl) D.B.str (by decide +kernel) rfl) pa_nil))))) (pw_or (pt_not (pt_chain op_le op_le pe_int (pe_callB call_len (by rfl) D.B.len PySem.boot_len (pa_cons (pv 0) pa_nil)) pe_int)) (pw_or1 (pt_cmpR op_in_seq (pv 0) (pe_glob (v := .ref a_WORDS) (by rfl) m_WORDS rfl) (by rfl)))))) (pss_one (ps_ret pe_bl)) pss_nil)
      (pss_cons (ps_if (PW.pt (pw_or (pt_cmpR op_notIn_sign (pe_ix (r := rIxS) ix_str (pv 0) pe_int (fun _ _ => rfl)) (pe_glob (v := .str "abcdefghijklmnopqrstuvwxyz") (by rfl) m_LETTERS ⟨_, rfl⟩) (by rfl)) (pw_or1 (pt_cmpR op_eq (pe_ix (r := rIxS) ix_str (pv 0) (pe_un un_neg pe_int) (fun _ _ => rfl)) pe_str (nomark _))))) (pss_one (ps_ret pe_bl)) pss_nil)
      (pss_one (ps_ret (pe_callB (cr_all rfl) (by rfl) D.B.all (by decide +kernel) (pa_cons (pe_lc (own := [("sign", 1)]) (g := (gName 1)) (tt := tYes) rfl sc_is_name.nd (pi_str (pv 0)) (blkOk_by (own := [("sign", 1)]) (N := n_is_name) (sc := defScope s_is_name) (by decide +kernel)) (fun _ _ _ _ _ => (pg_name (i := 1) sc_is_name.nd rfl (.inl rfl))) (fun _ _ _ _ _ => pts_nil) (fun _ _ _ _ _ => (pe_cmpR op_in_sign (pv 1) (pe_glob (v := .str "abcdefghijklmnopqrstuvwxyz0123456789.") (by rfl) m_SIGNS ⟨_, rfl⟩) (by rfl)))) pa_nil)))))), ?_⟩
    refine ⟨_, rfl, _, _, .type (tyN d), _, isStrD d, rfl, .ty "str", hd.ty, kit_str hd, isStrD d, rfl, ?_⟩
    cases hd with
    | non => exact iteT (q _ (Same.refl _))
    | bl b => exact iteT (q _ (Same.refl _))
    | int i => exact iteT (q _ (Same.refl _))
    | lst _ _ => exact iteT (q _ (Same.refl _))
    | tup _ _ => exact iteT (q _ (Same.refl _))
    | str z =>
    refine iteF ?_
    have hs : z.cps.size ≤ 1000000 := hz z rfl
    have hsz : z.length ≤ sizeLine := Nat.le_trans hs (by decide)
    have q : ∀ H1, Same H H1 → Q (.bl (nameB z)) H1 := q
    refine ⟨.str z, rfl, .str z, z.cps.size, rfl, ⟨hsz, rfl⟩, 1, (z.cps.size : Int), rfl, rfl, ?_⟩
    refine ⟨_, rfl, ?_⟩
    unfold nameB at q
    by_cases h1 : 1 ≤ z.cps.size
    case neg =>
      rw [decide_eq_false (show ¬ (1 : Int) ≤ (z.cps.size : Int) by omega)]
      rw [decide_eq_false h1] at q
      exact iteF ⟨false, rfl, iteT (q _ (Same.refl _))⟩
    rw [decide_eq_true (show (1 : Int) ≤ (z.cps.size : Int) by omega)]
    refine iteT ⟨_, _, rfl, rfl, _, rfl, ?_⟩
    by_cases h2 : z.cps.size ≤ 40
    case neg =>
      rw [decide_eq_false (show ¬ (z.cps.size : Int) ≤ 40 by omega)]
      rw [decide_eq_true h1, decide_eq_false h2] at q
      exact iteT (q _ (Same.refl _))
    rw [decide_eq_true (show (z.cps.size : Int) ≤ 40 by omega)]
    refine iteF ?_
    rw [decide_eq_true h1, decide_eq_true h2] at q
    refine ⟨.str z, rfl, a_WORDS, wordsS.map V.str, rfl, .inr (hW H), rfl, rfl, _, rfl, ?_⟩
    show if (if false = true then _ else inV (.str z) (wordsS.map V.str)) = true then _ else _
    rw [if_neg Bool.false_ne_true, inStr]
    cases h3 : wordsS.any (fun y => decide (z = y)) with
    | true =>
      rw [h3] at q
      exact iteT (q _ (Same.refl _))
    | false =>
    refine iteF ?_
    rw [h3] at q
    obtain ⟨c0, h0⟩ := head_sz h1
    obtain ⟨c1, hl⟩ := last_sz h1
    rw [h0, hl] at q
    refine ⟨.str z, rfl, z, 0, c0, rfl, rfl, hsz, atI_head h0, c0, letters, rfl, rfl, _, rfl, ?_⟩
    have q : ∀ H1, Same H H1 → Q (.bl (decide (c0 ∈ letters.cps.toList) && decide (c1 ≠ 46) && z.cps.toList.all fun c => decide (c ∈ signs.cps.toList))) H1 := q
    by_cases h4 : c0 ∈ letters.cps.toList
    case neg =>
      rw [decide_eq_false h4] at q ⊢
      exact iteT (q _ (Same.refl _))
    rw [decide_eq_true h4] at q ⊢
    refine iteF ?_
    refine ⟨.str z, rfl, 1, rfl, z, -1, c1, rfl, rfl, hsz, atI_last' hl, rfl, _, rfl, ?_⟩
    by_cases h5 : c1 = 46
    case pos =>
      subst h5
      rw [decide_eq_true (show (V.str ⟨#[46]⟩ : V) = .str "." by decide +kernel)]
      rw [decide_eq_false (by decide)] at q
      exact iteT (q _ (Same.refl _))
    rw [decide_eq_false (str1_ne h5)]
    rw [decide_eq_true h5] at q
    refine iteF ?_
    delta tNext tRet tCB tCons
    dsimp only
    refine tMapStr_ok (j := 0) (c := 1) ?_
    refine ⟨z, fun c => .bl (decide (c ∈ signs.cps.toList)), rfl, Nat.le_trans h2 (by decide), fun i cc H2 Qk hcc s2 hk => ⟨_, rfl, cc, signs, rfl, rfl, hk H2 (Same.refl _)⟩, fun Dl H2 nD s2 eD => ?_⟩
    have eB : z.cps.toList.map (fun c => V.bl (decide (c ∈ signs.cps.toList))) = (z.cps.toList.map fun c => decide (c ∈ signs.cps.toList)).map V.bl := by
      rw [List.map_map]
      rfl
    rw [eB] at eD
    refine ⟨Dl, _, rfl, sqL eD, ?_⟩
    rw [List.all_map]
    exact q H2 s2
end
end K7

set_option Elab.async false
set_option linter.all false
set_option maxRecDepth 100000
set_option maxHeartbeats 4000000
namespace K7
open PySem PySem.Spec PyProof.Rows L2 GX NdefX
section
variable {P : Program} {w : World} {K : PySem.W.Frag} {mg : Str → Option Value} {base : Heap}
theorem part_len {ds : List PyData} (h : ds.length ≠ 2) : partD (.tuple ds) = false := by
  match ds, h with
  | [], _ => rfl
  | [_], _ => simp [partD]
  | [_, _], h => exact absurd rfl h
  | _ :: _ :: _ :: _, _ => simp [partD]
theorem ok_part {k : Nat} (D : Pr P K mg) : FnOk P w K mg base CX0 (k + 3) D._is_part.f D._is_part.fd ["part", "names"] spPart := by
  have G_is_bit : FnOk P w K mg base CX0 (k + 2) D.is_bit.f D.is_bit.fd ["value"] spBit := ok_bit D
  have G_is_name : FnOk P w K mg base CX0 (k + 1) D.is_name.f D.is_name.fd ["value"] spName := ok_name D
  obtain ⟨a_EDGES, m_EDGES, hE⟩ := D.k_EDGES
  obtain ⟨a_JOINTS, m_JOINTS, hJ⟩ := D.k_JOINTS
  refine D._is_part.F.ok sc__is_part (fun vs H Q E h => ?_) (fun cdv A outer s H vs Q E hr h => ?_)
  · obtain ⟨v, d, rfl, _⟩ := h
    rfl
  · obtain ⟨v, d, rfl, hd, dom, hz, q⟩ := h
    refine ⟨_, (pss_cons (ps_if (PW.pt (pw_or (pt_not (pt_val (pe_callB call_isi (by rfl) D.B.isinstance (by decide +kernel) (pa_cons (pv 0) (pa_cons (pe_bltn (v := .ty "tuple") (u := .type "tuple") (by rfl) D.B.tuple (by decide +kernel) rfl) pa_nil))))) (pw_or1 (pt_cmpR op_ne (pe_callB call_len (by rfl) D.B.len PySem.boot_len (pa_cons (pv 0) pa_nil)) pe_int (nomark _))))) (pss_one (ps_ret pe_bl)) pss_nil)
      (pss_cons (ps_asg (pv 0) (pg_tup rfl (pgs_cons (pg_name (i := 2) sc__is_part.nd rfl (.inl rfl)) (pgs_cons (pg_name (i := 3) sc__is_part.nd rfl (.inl rfl)) pgs_nil))))
      (pss_cons (ps_if (pt_cmpR op_eq (pv 2) pe_str (nomark _)) (pss_one (ps_ret pe_bl)) pss_nil)
      (pss_cons (ps_if (pt_cmpR op_in_seq (pv 2) (pe_glob (v := .ref a_JOINTS) (by rfl) m_JOINTS rfl) (by rfl)) (pss_one (ps_ret (pe_and (pe_callB call_isi (by rfl) D.B.isinstance (by decide +kernel) (pa_cons (pv 3) (pa_cons (pe_bltn (v := .ty "tuple") (u := .type "tuple") (by rfl) D.B.tuple (by decide +kernel) rfl) pa_nil))) (pe_one (pe_cmpR op_gt (pe_callB call_len (by rfl) D.B.len PySem.boot_len (pa_cons (pv 3) pa_nil)) pe_int (nomark _)))))) pss_nil)
      (pss_cons (ps_if (pt_cmpR op_eq (pv 2) pe_str (nomark _)) (pss_one (ps_ret (pe_call G_is_bit (hr.mono (by omega)) (by rfl) D.is_bit.g D.is_bit.F.kp D.is_bit.b .nil pass0 (pa_cons (pv 3) pa_nil)))) pss_nil)
      (pss_cons (ps_if (PW.pt (pw_or (pt_cmpR op_eq (pv 2) pe_str (nomark _)) (pw_or1 (pt_cmpR op_in_seq (pv 2) (pe_glob (v := .ref a_EDGES) (by rfl) m_EDGES rfl) (by rfl))))) (pss_one (ps_ret (pe_ifExp (pt_cmpR op_isN (pv 1) pe_non (nomark _)) (pe_call G_is_name (hr.mono (by omega)) (by rfl) D.is_name.g D.is_name.F.kp D.is_name.b .nil pass0 (pa_cons (pv 3) pa_nil)) (pe_and (pe_callB call_isi (by rfl) D.B.isinstance (by decide +kernel) (pa_cons (pv 3) (pa_cons (pe_bltn (v := .ty "str") (u := .type "str") (by rfl) D.B.str (by decide +kernel) rfl) pa_nil))) (pe_one (pe_cmpR op_in_seq (pv 3) (pv 1) (by rfl))))))) pss_nil)
      (pss_one (ps_ret pe_bl)))))))), ?_⟩
    refine ⟨_, rfl, _, _, .type (tyN d), _, isTupD d, rfl, .ty "tuple", hd.ty, kit_tup hd, isTupD d, rfl, ?_⟩
    cases hd with
    | non => exact iteT (q _ (Same.refl _))
    | bl b => exact iteT (q _ (Same.refl _))
    | int i => exact iteT (q _ (Same.refl _))
    | str z => exact iteT (q _ (Same.refl _))
    | lst _ _ => exact iteT (q _ (Same.refl _))
    | @tup a xs ds ha hxs =>
    refine iteF ?_
    have hlen : xs.length = ds.length := hxs.length
    refine ⟨.ref a, rfl, .ref a, xs.length, rfl, lenV_sq (.inr ha) rfl, rfl, _, rfl, ?_⟩
    by_cases h2 : ds.length = 2
    case neg =>
      rw [decide_eq_false (show ¬ ((V.int (xs.length : Nat)) = V.int 2) from fun e => h2 (by have := V.int.inj e; omega))]
      refine iteT ?_
      have q1 := q _ (Same.refl _)
      rw [part_len h2] at q1
      exact q1
    rw [decide_eq_true (show ((V.int (xs.length : Nat)) = V.int 2) by rw [hlen, h2]; rfl)]
    refine iteF ?_
    match ds, h2, hxs, dom, q, hz with
    | [d1, d2], _, hxs, dom, q, hz =>
    match xs, hxs with
    | [x1, x2], .cons p1 (.cons p2 .nil) =>
    match d1, p1, dom, q, hz with
    | .str kk, .str _, dom, q, hz =>
    have q : ∀ H1, Same H H1 → Q (.bl (partK kk d2)) H1 := q
    refine ⟨.ref a, rfl, a, [.str kk, x2], rfl, sqT ha, rfl, .str kk, [x2], rfl, x2, [], rfl, rfl, ?_⟩
    refine ⟨.str kk, rfl, rfl, _, rfl, ?_⟩
    rw [strEq]
    unfold partK at q
    by_cases e1 : kk = "not"
    · rw [decide_eq_true e1]
      rw [if_pos e1] at q
      exact iteT (q _ (Same.refl _))
    rw [decide_eq_false e1]
    rw [if_neg e1] at q
    refine iteF ?_
    refine ⟨.str kk, rfl, a_JOINTS, (["and", "or"] : List Str).map V.str, rfl, .inr (hJ H), rfl, rfl, _, rfl, ?_⟩
    show if (if false = true then _ else inV (.str kk) ((["and", "or"] : List Str).map V.str)) = true then _ else _
    rw [if_neg Bool.false_ne_true, inStr]
    by_cases e2 : kk = "and" ∨ kk = "or"
    · rw [show (["and", "or"] : List Str).any (fun y => decide (kk = y)) = true by rcases e2 with e | e <;> simp [e]]
      rw [if_pos e2] at q
      refine iteT ⟨x2, rfl, _, _, .type (tyN d2), _, isTupD d2, rfl, .ty "tuple", p2.ty, kit_tup p2, isTupD d2, rfl, ?_⟩
      cases p2 with
      | non => exact iteF (q _ (Same.refl _))
      | bl b => exact iteF (q _ (Same.refl _))
      | int i => exact iteF (q _ (Same.refl _))
      | str z => exact iteF (q _ (Same.refl _))
      | lst _ _ => exact iteF (q _ (Same.refl _))
      | @tup b ys es hb hys =>
        refine iteT ⟨.ref b, rfl, .ref b, ys.length, rfl, lenV_sq (.inr hb) rfl, (ys.length : Int), 1, rfl, rfl, ?_⟩
        have q1 := q _ (Same.refl _)
        simp only [manyD] at q1
        show Q (.bl (decide ((1 : Int) < (ys.length : Int)))) H
        rw [show decide ((1 : Int) < (ys.length : Int)) = decide (1 < es.length) from decide_eq_decide.mpr (by have := hys.length; omega)]
        exact q1
    rw [show (["and", "or"] : List Str).any (fun y => decide (kk = y)) = false by
      simp only [List.any_cons, List.any_nil, Bool.or_false, Bool.or_eq_false_iff, decide_eq_false_iff_not]
      exact ⟨fun e => e2 (.inl e), fun e => e2 (.inr e)⟩]
    rw [if_neg e2] at q
    refine iteF ?_
    refine ⟨.str kk, rfl, rfl, _, rfl, ?_⟩
    rw [strEq]
    by_cases e3 : kk = "bit"
    · rw [decide_eq_true e3]
      rw [if_pos e3] at q
      refine iteT ⟨x2, rfl, x2, rfl, ?_⟩
      subst e3
      cases p2 with
      | int i => exact .inl ⟨i, rfl, q _ (Same.refl _)⟩
      | bl b => exact .inr ⟨b, rfl, q _ (Same.refl _)⟩
      | non => simp [domD] at dom
      | str z => simp [domD] at dom
      | lst _ _ => simp [domD] at dom
      | tup _ _ => simp [domD] at dom
    rw [decide_eq_false e3]
    rw [if_neg e3] at q
    refine iteF ?_
    refine ⟨.str kk, rfl, rfl, _, rfl, ?_⟩
    rw [strEq]
    have nm : (∀ H1, Same H H1 → Q (.bl (nameD d2)) H1) → spName [x2] H Q (fun _ _ _ => False) := fun q => ⟨x2, d2, rfl, p2, fun z e => hz _ z (by rw [e]), q⟩
    by_cases e4 : kk = "name"
    · rw [decide_eq_true e4]
      rw [if_pos (.inl e4)] at q
      exact iteT (iteT ⟨.non, rfl, rfl, true, rfl, iteT ⟨x2, rfl, nm q⟩⟩)
    rw [decide_eq_false e4]
    refine iteF ?_
    refine ⟨.str kk, rfl, a_EDGES, (["rise", "fall"] : List Str).map V.str, rfl, .inr (hE H), rfl, rfl, _, rfl, ?_⟩
    show if (if false = true then _ else inV (.str kk) ((["rise", "fall"] : List Str).map V.str)) = true then _ else _
    rw [if_neg Bool.false_ne_true, inStr]
    by_cases e5 : kk = "rise" ∨ kk = "fall"
    · rw [show (["rise", "fall"] : List Str).any (fun y => decide (kk = y)) = true by rcases e5 with e | e <;> simp [e]]
      rw [if_pos (.inr e5)] at q
      exact iteT ⟨.non, rfl, rfl, true, rfl, iteT ⟨x2, rfl, nm q⟩⟩
    rw [show (["rise", "fall"] : List Str).any (fun y => decide (kk = y)) = false by
      simp only [List.any_cons, List.any_nil, Bool.or_false, Bool.or_eq_false_iff, decide_eq_false_iff_not]
      exact ⟨fun e => e5 (.inl e), fun e => e5 (.inr e)⟩]
    rw [if_neg (fun z => z.elim e4 e5)] at q
    exact iteF (q _ (Same.refl _))
    | .none, .non, dom, _, _ => simp [domD] at dom
    | .bool _, .bl _, dom, _, _ => simp [domD] at dom
    | .int _, .int _, dom, _, _ => simp [domD] at dom
    | .list _, .lst _ _, dom, _, _ => simp [domD] at dom
    | .tuple _, .tup _ _, dom, _, _ => simp [domD] at dom
end
end K7

set_option Elab.async false
set_option linter.all false
set_option maxRecDepth 100000
set_option maxHeartbeats 4000000
namespace K7
open PySem PySem.Spec PyProof.Rows L2 GX NdefX
def spForm : Sp := fun vs H Q _ => ∃ (v : V) (d : PyData), vs = [v, .non, .int 40] ∧ Dh H v d ∧ domL 40 [d] = true ∧ wtD d ≤ 100000 ∧ strD d = true ∧ ∀ H1, Same H H1 → Q (.bl (formL 40 [d])) H1
section
variable {P : Program} {w : World} {K : PySem.W.Frag} {mg : Str → Option Value} {base : Heap}
theorem FunD.ok0 {x qual : Str} {st : Stmt} {dvs : List V} {f : Addr} {fd : FuncData} {N ps : List Str} {k : Nat} {sp : Sp} (F : FunD K x qual (defArgs st) (defBody st) (defScope st) dvs [] f fd) (S : FnScope N ps (defScope st)) (len : ∀ vs H Q E, sp vs H Q E → vs.length = ps.length)
    (hb : ∀ (cdv : Value) (A : Around) (outer : List Env) (s : Shared) (H : Hp) (vs : List V) (Q : VK) (E : XK), Room k (A.deeper (envOfC qual (defScope st) s.heap.objs.size f cdv)) → sp vs H Q E →
      ∃ t, PSs (cxOf CX0 P w K mg base N qual (defScope st) f cdv A outer s H E).nox (defBody st) t ∧ t { nx := fun _ H' => Q .non H', rt := Q } (start N vs) H) : FnOk P w K mg base CX0 (k + 1) f fd ps sp :=
  F.ok (CX := CX0) S len fun cdv A outer s H vs Q E hr h => let ⟨t, h1, q⟩ := hb cdv A outer s H vs Q E hr h; ⟨t, h1.nox, q⟩
theorem DhAll.get {H : Hp} (ds : List PyData) : ∀ {vs : List V} {i : Nat} {v : V}, DhAll H vs ds → vs[i]? = some v → ∃ d, ds[i]? = some d ∧ Dh H v d := by
  induction ds with
  | nil => intro vs i v h e; cases h; simp at e
  | cons d ds ih =>
    intro vs i v h e
    cases h with
    | cons h t =>
      cases i with
      | zero => simp at e; subst e; exact ⟨d, rfl, h⟩
      | succ i => exact ih t (by simpa using e)
theorem take_succ_of {α : Type} {l : List α} {i : Nat} {x : α} (h : l[i]? = some x) : l.take (i + 1) = l.take i ++ [x] := by
  rw [List.take_add_one, h]; rfl
theorem ok_form {k : Nat} (D : Pr P K mg) : FnOk P w K mg base CX0 (k + 4) D.is_formula.f D.is_formula.fd ["value", "names", "depth"] spForm := by
  have G__is_part : FnOk P w K mg base CX0 (k + 3) D._is_part.f D._is_part.fd ["part", "names"] spPart := ok_part D
  obtain ⟨a_JOINTS, m_JOINTS, hJ⟩ := D.k_JOINTS
  refine FunD.ok0 D.is_formula.F sc_is_formula (fun vs H Q E h => ?_) (fun cdv A outer s H vs Q E hr h => ?_)
  · obtain ⟨v, d, rfl, _⟩ := h
    rfl
  · obtain ⟨v, d, rfl, hd, dom, wt, st, q⟩ := h
    refine ⟨_, (pss_cons (ps_set (i := 3) sc_is_formula.nd rfl (.inl rfl) (pe_lst (pa_cons (pv 0) pa_nil)))
      (pss_cons (ps_for PassesOwn.never rfl (pi_range1 (by rfl) D.B.range (pa_cons (pv 2) pa_nil)) (pg_name (i := 4) sc_is_formula.nd rfl (.inl rfl)) (pss_cons (ps_set (i := 5) sc_is_formula.nd rfl (.inl rfl) (pe_lst pa_nil)) (pss_cons (ps_for PassesOwn.never rfl (pi_list (pe_callTy call_list_of (by rfl) D.B.list (by decide +kernel) (pa_cons (pv 3) pa_nil))) (pg_name (i := 6) sc_is_formula.nd rfl (.inl rfl)) (pss_cons (ps_if (pt_not (pt_val (pe_call G__is_part (hr.mono (by omega)) (by rfl) D._is_part.g D._is_part.F.kp D._is_part.b .nil pass0 (pa_cons (pv 6) (pa_cons (pv 1) pa_nil))))) (pss_one (ps_ret pe_bl)) pss_nil) (pss_one (ps_if (pt_cmpR op_eq (pe_ix (r := rIxT K) ix_tup (pv 6) pe_int (fun _ _ => rfl)) pe_str (nomark _)) (pss_one (ps_expr (pe_bm PySem.F.plainAttrs_list PySem.F.slot_list_append PySem.F.type_list_append mt_append (pv 5) (pa_cons (pe_ix (r := rIxT K) ix_tup (pv 6) pe_int (fun _ _ => rfl)) pa_nil)))) (pss_one (ps_if (pt_cmpR op_in_seq (pe_ix (r := rIxT K) ix_tup (pv 6) pe_int (fun _ _ => rfl)) (pe_glob (v := .ref a_JOINTS) (by rfl) m_JOINTS rfl) (by rfl)) (pss_one (ps_expr (pe_bm PySem.F.plainAttrs_list PySem.F.slot_list_extend PySem.F.type_list_extend RG.mt_extT (pv 5) (pa_cons (pe_ix (r := rIxT K) ix_tup (pv 6) pe_int (fun _ _ => rfl)) pa_nil)))) pss_nil)))))) (pss_cons (ps_if (pt_not (pt_truth (pv 5) (fun _ => rfl))) (pss_one (ps_ret pe_bl)) pss_nil) (pss_one (ps_set (i := 3) sc_is_formula.nd rfl (.inl rfl) (pv 5)))))))
      (pss_one (ps_ret pe_bl)))), ?_⟩
    refine ⟨v, rfl, by show 1 ≤ sizeLine; decide, fun L nL => ?_⟩
    have sL := same_upd nL (o := .lst [v])
    have eL : upd H L (.lst [v]) L = some (.lst [v]) := upd_same
    generalize upd H L (.lst [v]) = H1 at sL eL
    refine ⟨.int 40, rfl, 40, rfl, by decide, by decide, forRg (n := 40) (D := { nx := _, rt := Q }) (fun i σ H' => ∃ L xs l c4 c5 c6, σ = [some v, some .non, some (.int 40), some (.ref L), c4, c5, c6] ∧ Same H H' ∧ H' L = some (.lst xs) ∧ DhAll H' xs l ∧ domL (40 - i) l = true ∧ wtL l ≤ 100000 ∧ strL l = true ∧ formL 40 [d] = formL (40 - i) l)
      ⟨L, [v], [d], none, none, none, rfl, sL, eL, .cons (hd.same sL) .nil, dom, by simp only [wtL]; omega, by simp only [strL, st]; rfl, rfl⟩ ?_ ?_⟩
    · rintro i σ H2 hi ⟨L, xs, l, c4, c5, c6, rfl, s2, eL, dl, dom, wt, st, eq⟩
      obtain ⟨n, hn⟩ : ∃ n, 40 - i = n + 1 := ⟨39 - i, by omega⟩
      have hn2 : 40 - (i + 1) = n := by omega
      rw [hn] at dom eq
      have alld : l.all domD = true := by unfold domL at dom; exact (Bool.and_eq_true_iff.mp dom).1
      have lenx : xs.length = l.length := dl.length
      have few : l.length ≤ 100000 := Nat.le_trans (wtL_len l) wt
      refine ⟨by show 0 ≤ sizeLine; decide, fun b nb => ?_⟩
      have sb := same_upd nb (o := .lst [])
      have eb : upd H2 b (.lst []) b = some (.lst []) := upd_same
      generalize upd H2 b (.lst []) = H3 at sb eb
      refine ⟨.ref L, rfl, L, xs, rfl, .inl (sqL (sb _ _ eL)), fun p np => ?_⟩
      have s4 := same_upd np (o := .lst xs)
      have ep : upd H3 p (.lst xs) p = some (.lst xs) := upd_same
      generalize upd H3 p (.lst xs) = H4 at s4 ep
      have s24 := sb.trans s4
      have npb : p ≠ b := fun e => by rw [e, eb] at np; cases np
      have n2p : H2 p = none := none_of_same sb np
      refine ⟨p, rfl, ⟨_, sqL ep⟩, forLs (D := { nx := _, rt := Q }) (xs := xs) (fun j σ H' => ∃ c6 ys, σ = [some v, some .non, some (.int 40), some (.ref L), some (.int (i : Nat)), some (.ref b), c6] ∧ Same H2 H' ∧ H' b = some (.lst ys) ∧ H' p = some (.lst xs) ∧
        DhAll H2 ys ((l.take j).flatMap belowD) ∧ (l.take j).all partD = true) ep ⟨c6, [], rfl, s24, s4 _ _ eb, ep, .nil, rfl⟩ (fun j σ H' z => by obtain ⟨_, _, _, _, _, e, _⟩ := z; exact e) ?_ ?_⟩
      · rintro j x σ H5 hx ⟨c6, ys, rfl, s5, eb5, ep5, dy, allp⟩
        obtain ⟨d', hd', hx'⟩ := DhAll.get l dl hx
        have md : d' ∈ l := List.mem_of_getElem? hd'
        have sd : strD d' = true := strL_all.mp st d' md
        refine ⟨x, rfl, .non, rfl, x, d', rfl, hx'.same s5, List.all_eq_true.mp alld d' md, fun kk z e => ?_, fun H6 s6 => ?_⟩
        · rw [e] at sd
          simp only [strD, strL, Bool.and_eq_true, decide_eq_true_eq] at sd
          exact sd.2.1
        have s26 := s5.trans s6
        refine ⟨partD d', rfl, ?_⟩
        cases ep' : partD d' with
        | false =>
          have q1 := q H6 (s2.trans s26)
          rw [eq, formL, show l.all partD = false from by
            rw [List.all_eq_false]
            exact ⟨d', md, by rw [ep']; exact Bool.false_ne_true⟩] at q1
          exact iteT q1
        | true =>
          refine iteF ?_
          obtain ⟨kk, x2d, rfl, hk⟩ := part_inv ep'
          match x, hx' with
          | .ref a, .tup (xs := xx) ea hxx =>
          match xx, hxx with
          | [.str _, x2], .cons (.str _) (.cons h2 .nil) =>
          have ea6 := s26 _ _ ea
          have eb6 := s6 _ _ eb5
          have bl : belowD (.tuple [.str kk, x2d]) = if kk = "not" then [x2d] else if kk = "and" ∨ kk = "or" then itemsD x2d else [] := rfl
          have tk : (l.take (j + 1)).flatMap belowD = (l.take j).flatMap belowD ++ belowD (.tuple [.str kk, x2d]) := by
            rw [take_succ_of hd', List.flatMap_append]; simp
          have tp : (l.take (j + 1)).all partD = true := by
            rw [take_succ_of hd', List.all_append, allp, Bool.true_and, List.all_cons, ep']; rfl
          have yl : ys.length ≤ 100000 := by
            rw [dy.length]
            refine Nat.le_trans (wtL_len _) (Nat.le_trans (wt_belowL _) ?_)
            have : wtL (l.take j ++ l.drop j) = wtL l := by rw [List.take_append_drop]
            rw [wtL_app] at this
            omega
          have nba : b ≠ a := fun e => by rw [← e, nb] at ea; cases ea
          refine ⟨.ref a, rfl, a, _, 0, .str kk, rfl, rfl, sqT ea6, rfl, rfl, _, rfl, ?_⟩
          rw [strEq]
          have fin : ∀ (zs : List V) (c6 : Option V), DhAll H2 zs (belowD (.tuple [.str kk, x2d])) → ∃ c6' ys', [some v, some V.non, some (V.int 40), some (V.ref L), some (V.int (i : Nat)), some (V.ref b), c6] = [some v, some V.non, some (V.int 40), some (V.ref L), some (V.int (i : Nat)), some (V.ref b), c6'] ∧ Same H2 (upd H6 b (.lst (ys ++ zs))) ∧ upd H6 b (.lst (ys ++ zs)) b = some (.lst ys') ∧ upd H6 b (.lst (ys ++ zs)) p = some (.lst xs) ∧
              DhAll H2 ys' ((l.take (j + 1)).flatMap belowD) ∧ (l.take (j + 1)).all partD = true := fun zs c6 hz =>
            ⟨c6, ys ++ zs, rfl, fun c o e => by rw [upd_ne (fun z => by rw [z, nb] at e; cases e)]; exact s26 c o e, upd_same, by rw [upd_ne npb]; exact s6 _ _ ep5, by rw [tk]; exact DhAll.app _ _ _ _ dy hz, tp⟩
          by_cases e1 : kk = "not"
          · rw [decide_eq_true e1]
            refine iteT ⟨.ref b, rfl, .inl ⟨rfl, _, sqL eb6⟩, .ref a, rfl, a, _, 1, x2, rfl, rfl, sqT ea6, rfl, b, ys, x2, rfl, rfl, eb6, by rw [sizeLine_eq]; omega, ?_⟩
            refine fin [x2] _ ?_
            rw [bl, if_pos e1]
            exact .cons h2 .nil
          rw [decide_eq_false e1]
          refine iteF ⟨.ref a, rfl, a, _, 0, .str kk, rfl, rfl, sqT ea6, rfl, a_JOINTS, (["and", "or"] : List Str).map V.str, rfl, .inr (hJ H6), rfl, rfl, _, rfl, ?_⟩
          show if (if false = true then _ else inV (.str kk) ((["and", "or"] : List Str).map V.str)) = true then _ else _
          rw [if_neg Bool.false_ne_true, inStr]
          by_cases e2 : kk = "and" ∨ kk = "or"
          · rw [show (["and", "or"] : List Str).any (fun y => decide (kk = y)) = true by rcases e2 with e | e <;> simp [e]]
            obtain ⟨xs2, rfl⟩ := partK_many hk e2
            match x2, h2 with
            | .ref a2, .tup (xs := zz) ea2 hzz =>
            have zl : zz.length ≤ 100000 := by
              rw [hzz.length]
              have h1 : xs2.length ≤ wtL xs2 := wtL_len _
              have h2 : wtL xs2 ≤ wtL l := by
                obtain ⟨l1, l2, el⟩ := List.append_of_mem md
                rw [el, wtL_app]
                simp only [wtL, wtD]
                omega
              omega
            refine iteT ⟨.ref b, rfl, .inl ⟨rfl, _, sqL eb6⟩, .ref a, rfl, a, _, 1, .ref a2, rfl, rfl, sqT ea6, rfl, b, a2, ys, zz, rfl, rfl, eb6, sqT (s26 _ _ ea2), by rw [sizeLine_eq]; omega, ?_⟩
            refine fin zz _ ?_
            rw [bl, if_neg e1, if_pos e2]
            exact hzz
          rw [show (["and", "or"] : List Str).any (fun y => decide (kk = y)) = false by
            simp only [List.any_cons, List.any_nil, Bool.or_false, Bool.or_eq_false_iff, decide_eq_false_iff_not]
            exact ⟨fun e => e2 (.inl e), fun e => e2 (.inr e)⟩]
          refine iteF ⟨_, ys, rfl, s26, eb6, s6 _ _ ep5, ?_, tp⟩
          rw [tk, bl, if_neg e1, if_neg e2, List.append_nil]
          exact dy
      · rintro σ H5 ⟨c6, ys, rfl, s5, eb5, ep5, dy, allp⟩
        rw [lenx, List.take_length] at dy allp
        have ev : formL 40 [d] = if l.flatMap belowD = [] then true else formL n (l.flatMap belowD) := by
          rw [eq, formL, allp, Bool.true_and]
        refine ⟨.ref b, rfl, !ys.isEmpty, .inl ⟨ys, sqL eb5, rfl⟩, ?_⟩
        have len := dy.length
        cases ys with
        | nil =>
          have e0 : l.flatMap belowD = [] := List.eq_nil_of_length_eq_zero len.symm
          have q1 := q H5 (s2.trans s5)
          rw [ev, if_pos e0] at q1
          exact iteT q1
        | cons y yr =>
          have e0 : ¬ l.flatMap belowD = [] := fun e => by rw [e] at len; simp at len
          refine iteF ⟨.ref b, rfl, b, y :: yr, l.flatMap belowD, _, _, _, rfl, s2.trans s5, eb5, DhAll.same s5 _ _ dy, ?_, Nat.le_trans (wt_belowL l) wt, ?_, ?_⟩
          · rw [hn2]
            unfold domL at dom
            rw [allp] at dom
            simpa using (Bool.and_eq_true_iff.mp dom).2
          · refine strL_all.mpr fun e me => ?_
            obtain ⟨d1, m1, m2⟩ := List.mem_flatMap.mp me
            exact str_below (strL_all.mp st d1 m1) e m2
          · rw [hn2, ev, if_neg e0]
    · rintro σ H2 ⟨L, xs, l, c4, c5, c6, rfl, s2, eL, dl, dom, wt, st, eq⟩
      have q1 := q H2 s2
      rw [eq] at q1
      exact q1
end
end K7

set_option Elab.async false
set_option linter.all false
set_option maxRecDepth 100000
set_option maxHeartbeats 4000000
namespace K7
open PySem PySem.Spec PyProof.Rows L2 GX NdefX
/-! ### the exceptions' own __init__ -/
def spShape (C : Addr) : Sp := fun vs H Q _ => ∃ a : Addr, vs = [.ref a] ∧ H a = some (exo a C none) ∧ Q .non H
def RaiN (E : XK) (C : Addr) (H : Hp) : Prop := ∀ H', Same H H' → E (.ref C) none H'
theorem RaiN.same {E : XK} {C : Addr} {H H1 : Hp} (h : RaiN E C H) (s : Same H H1) : RaiN E C H1 := fun H' s' => h H' (s.trans s')
def spLine (C : Addr) : Sp := fun vs H Q _ => ∃ (a : Addr) (i : Int), vs = [.ref a, .int i] ∧ H a = some (exo a C none) ∧ i.natAbs.log2 < 1920 ∧ (Str.ofString (toString i)).length ≤ 100 ∧
  ∀ dx, H dx = none → dx ≠ a → Q .non (upd (upd H dx (exd dx [("line", .int i)])) a (exo a C (some dx)))
section
variable {P : Program} {w : World} {K : PySem.W.Frag} {mg : Str → Option Value} {base : Heap}
theorem ok_badf {k : Nat} (D : Pr P K mg) : FnOk P w K mg base CX0 (k + 1) D.BadFormula.f D.BadFormula.fd ["self"] (spShape D.BadFormula.C) := by
  refine fn_ofI D.BadFormula.T ns_BadFormula_init rfl rfl rfl (fun vs H Q E h => ?_) rfl (fun _ _ _ => ⟨rfl, rfl, ⟨_, rfl⟩, rfl, rfl⟩) (fun cc cda A outer s H vs Q E hr h => ?_)
  · obtain ⟨a, rfl, _⟩ := h
    rfl
  · obtain ⟨a, rfl, ha, q⟩ := h
    exact ⟨a, _, _, _, rfl, ha, pa_cons pe_str pa_nil, pss_nil, ha, by show 1 ≤ 1000; decide, q⟩
theorem ok_badt {k : Nat} (D : Pr P K mg) : FnOk P w K mg base CX0 (k + 1) D.BadText.f D.BadText.fd ["self", "line"] (spLine D.BadText.C) := by
  refine fn_ofI D.BadText.T ns_BadText_init rfl rfl rfl (fun vs H Q E h => ?_) rfl (fun _ _ _ => ⟨rfl, rfl, ⟨_, rfl⟩, rfl, rfl⟩) (fun cc cda A outer s H vs Q E hr h => ?_)
  · obtain ⟨a, z, rfl, _⟩ := h
    rfl
  · obtain ⟨a, i, rfl, ha, hi, hz, q⟩ := h
    refine ⟨a, _, _, _, rfl, ha, pa_cons (pe_joined (PJ.cons pe_str (PJ.cons (pe_fmt (pv 1)) (PJ.cons pe_str PJ.nil)))) pa_nil, pss_one (ps_ost (pv 0) (pv 1)), ?_⟩
    have e : (Str.ofString "the text cannot be read (line ").length = 30 := by decide
    have e2 : Str.empty.length = 0 := by decide
    have e3 : (Str.ofString ")").length = 1 := by decide
    have es : sizeLine = 16777216 := sizeLine_eq
    refine ⟨_, rfl, by rw [lenApp]; omega, .int i, rfl, .inr ⟨i, rfl, hi, toString i, rfl, by rw [lenApp, lenApp]; omega, _, rfl, by rw [lenApp, lenApp, lenApp]; omega, ha, by show 1 ≤ 1000; decide, ?_⟩⟩
    exact ⟨.int i, rfl, .ref a, rfl, a, D.BadText.C, rfl, D.BadText.T.O, D.BadText.nf _ (by simp), .inl ⟨ha, q⟩⟩
theorem mkO_badf {E : XK} {C : Addr} {H H1 : Hp} (h : RaiN E C H) (s : Same H H1) : ∀ a, H1 a = none → spShape C [V.ref a] (upd H1 a (exo a C none)) (fun v H2 => v = .non ∧ H2 a = some (exo a C none) ∧ E (.ref C) none (del H2 a)) (fun _ _ _ => False) := fun a na =>
  ⟨a, rfl, upd_same, rfl, upd_same, h _ (s.trans fun b o e => by rw [del_ne (ne_of_none e na), upd_ne (ne_of_none e na)]; exact e)⟩
theorem mkO_line {C : Addr} {H H1 : Hp} {i : Int} {R : Addr → Hp → Prop} (hi : i.natAbs.log2 < 1920 ∧ (Str.ofString (toString i)).length ≤ 100) (h : ∀ d H', Same H H' → H' d = some (.xd [("line", .int i)]) → R d H') (s : Same H H1) :
    [V.int i].length ≤ 1000 ∧ ∀ a, H1 a = none → spLine C (.ref a :: ([V.int i] ++ [])) (upd H1 a (exo a C none)) (fun v H2 => v = .non ∧ ∃ d fs, H2 a = some (exo a C (some d)) ∧ H2 d = some (exd d fs) ∧ H1 d = none ∧ R d (upd (del H2 a) d (.xd fs))) (fun _ _ _ => False) := by
  refine ⟨by show 1 ≤ 1000; decide, fun a na => ⟨a, i, rfl, upd_same, hi.1, hi.2, fun dx nx ne => ?_⟩⟩
  rw [upd_ne ne] at nx
  refine ⟨rfl, dx, _, upd_same, by rw [upd_ne ne, upd_same], nx, h dx _ (s.trans (xsame na nx fun b h1 h2 => ?_)) upd_same⟩
  rw [upd_ne h1, upd_ne h2, upd_ne h1]
end
/-- data that is_formula may be asked about -/
structure Arg (H : Hp) (v : V) (d : PyData) : Prop where
  dh : Dh H v d
  dom : domL 40 [d] = true
  wt : wtD d ≤ 100000
  st : strD d = true
theorem Arg.same {H H1 : Hp} {v : V} {d : PyData} (h : Arg H v d) (s : Same H H1) : Arg H1 v d := ⟨h.dh.same s, h.dom, h.wt, h.st⟩
def spCheck (C : Addr) : Sp := fun vs H Q E => ∃ (v : V) (d : PyData), vs = [v] ∧ Arg H v d ∧ (formL 40 [d] = true → ∀ H1, Same H H1 → Q .non H1) ∧ (formL 40 [d] = false → RaiN E C H)
/-- a dict whose keys are the leaves' -/
def LeafD (H : Hp) (D : Addr) (f : Fm) : Prop := ∃ kvs : List (List L2.Key × V), H D = some (.dT kvs) ∧ kvs.length ≤ f.cnt ∧ ∀ k, k ∈ kvs.map (·.1) ↔ k ∈ f.lvs.map Fm.key
def spLeaves : Sp := fun vs H Q _ => ∃ (v : V) (f : Fm), vs = [v] ∧ Dh H v f.data ∧ f.cnt ≤ 100000 ∧ ∀ D H1, Same H H1 → H D = none → LeafD H1 D f → Q (.ref D) H1
section
variable {P : Program} {w : World} {K : PySem.W.Frag} {mg : Str → Option Value} {base : Heap}
theorem ok_check {k : Nat} (D : Pr P K mg) : FnOk P w K mg base (CX P w) (k + 5) D.check_formula.f D.check_formula.fd ["formula"] (spCheck D.BadFormula.C) := by
  have G_is_formula : FnOk P w K mg base CX0 (k + 4) D.is_formula.f D.is_formula.fd ["value", "names", "depth"] spForm := ok_form D
  have GX_BadFormula : FnOk P w K mg base CX0 (k + 1) D.BadFormula.f D.BadFormula.fd ["self"] (spShape D.BadFormula.C) := ok_badf D
  refine D.check_formula.F.okX sc_check_formula (fun vs H Q E h => ?_) (fun cdv A outer s H vs Q E hr h => ?_)
  · obtain ⟨v, d, rfl, _⟩ := h
    rfl
  · obtain ⟨v, d, rfl, ad, q1, q2⟩ := h
    refine ⟨_, (pss_one (ps_if (pt_not (pt_val (pe_call G_is_formula (hr.mono (by omega)) (by rfl) D.is_formula.g D.is_formula.F.kp D.is_formula.b D.is_formula.v pass0 (pa_cons (pv 0) pa_nil)))) (pss_one (ps_raise rfl (takes_of rfl rfl rfl rfl) (pmk_oex0 D.BadFormula.T.O D.BadFormula.T.iC D.BadFormula.T.tI GX_BadFormula (hr.mono (by omega)) D.BadFormula.b pass0 (by rfl) D.BadFormula.g))) pss_nil)), ?_⟩
    refine ⟨v, rfl, v, d, rfl, ad.dh, ad.dom, ad.wt, ad.st, fun H1 s1 => ⟨formL 40 [d], rfl, ?_⟩⟩
    cases e : formL 40 [d] with
    | true => exact iteF (q1 e _ s1)
    | false => exact iteT (mkO_badf (q2 e) s1)
theorem subs_dh {H : Hp} {v : V} {f : Fm} (h : Dh H v f.data) : ∃ a, v = .ref a ∧ ((∃ b, f = .bit b ∧ H a = some (.tup (f.key.map kV))) ∨ (∃ x, f = .name x ∧ H a = some (.tup (f.key.map kV))) ∨ (∃ r x, f = .edge r x ∧ H a = some (.tup (f.key.map kV))) ∨
    (∃ g x2, f = .not g ∧ H a = some (.tup [.str "not", x2]) ∧ Dh H x2 g.data) ∨ ∃ w fs a2 xs, f = .joint w fs ∧ H a = some (.tup [.str (jK w), .ref a2]) ∧ H a2 = some (.tup xs) ∧ DhAll H xs (fs.map Fm.data)) := by
  cases f with
  | bit b =>
    match v, h with
    | .ref a, .tup (xs := [_, _]) e (.cons (.str _) (.cons (.int _) .nil)) => exact ⟨a, rfl, .inl ⟨b, rfl, e⟩⟩
  | name x =>
    match v, h with
    | .ref a, .tup (xs := [_, _]) e (.cons (.str _) (.cons (.str _) .nil)) => exact ⟨a, rfl, .inr (.inl ⟨x, rfl, e⟩)⟩
  | edge r x =>
    match v, h with
    | .ref a, .tup (xs := [_, _]) e (.cons (.str _) (.cons (.str _) .nil)) => exact ⟨a, rfl, .inr (.inr (.inl ⟨r, x, rfl, e⟩))⟩
  | not g =>
    match v, h with
    | .ref a, .tup (xs := [_, x2]) e (.cons (.str _) (.cons h2 .nil)) => exact ⟨a, rfl, .inr (.inr (.inr (.inl ⟨g, x2, rfl, e, h2⟩)))⟩
  | joint w fs =>
    cases h with
    | tup e hx =>
      cases hx with
      | cons h1 h2 =>
        cases h1
        cases h2 with
        | cons h3 h4 =>
          cases h4
          cases h3 with
          | tup e2 h5 => exact ⟨_, rfl, .inr (.inr (.inr (.inr ⟨w, fs, _, _, rfl, e, e2, by rw [← dataL_map]; exact h5⟩)))⟩
end
end K7

set_option Elab.async false
set_option linter.all false
set_option maxRecDepth 100000
set_option maxHeartbeats 4000000
namespace K7
open PySem PySem.Spec PyProof.Rows L2 GX NdefX
section
variable {P : Program} {w : World} {K : PySem.W.Frag} {mg : Str → Option Value} {base : Heap}
theorem dh_snoc {H : Hp} {xs : List V} {fs : List Fm} (h : DhAll H xs (fs.map Fm.data)) (ne : fs ≠ []) : ∃ f y, fs = fs.dropLast ++ [f] ∧ xs = xs.dropLast ++ [y] ∧ xs[xs.length - 1]? = some y ∧ Dh H y f.data ∧ DhAll H xs.dropLast (fs.dropLast.map Fm.data) := by
  have hl := h.length
  rw [List.length_map] at hl
  have xne : xs ≠ [] := fun e => by rw [e] at hl; exact ne (List.eq_nil_of_length_eq_zero hl.symm)
  obtain ⟨pre, f, rfl⟩ : ∃ pre f, fs = pre ++ [f] := ⟨fs.dropLast, fs.getLast ne, (List.dropLast_concat_getLast ne).symm⟩
  obtain ⟨px, y, rfl⟩ : ∃ px y, xs = px ++ [y] := ⟨xs.dropLast, xs.getLast xne, (List.dropLast_concat_getLast xne).symm⟩
  have pl : px.length = pre.length := by simp at hl; exact hl
  have key : ∀ (ps : List V) (gs : List Fm), ps.length = gs.length → DhAll H (ps ++ [y]) ((gs ++ [f]).map Fm.data) → Dh H y f.data ∧ DhAll H ps (gs.map Fm.data) := by
    intro ps
    induction ps with
    | nil =>
      intro gs hg hh
      cases gs with
      | nil => cases hh with | cons a _ => exact ⟨a, .nil⟩
      | cons _ _ => simp at hg
    | cons p ps ih =>
      intro gs hg hh
      cases gs with
      | nil => simp at hg
      | cons g gs =>
        cases hh with
        | cons a b =>
          obtain ⟨r1, r2⟩ := ih gs (by simpa using hg) b
          exact ⟨r1, .cons a r2⟩
  obtain ⟨k1, k2⟩ := key px pre pl h
  exact ⟨f, y, by simp, by simp, by simp, k1, by simpa using k2⟩
theorem ok_leaves {k : Nat} (D : Pr P K mg) : FnOk P w K mg base CX0 (k + 1) D.leaves_of.f D.leaves_of.fd ["formula"] spLeaves := by
  obtain ⟨a_JOINTS, m_JOINTS, hJ⟩ := D.k_JOINTS
  refine D.leaves_of.F.ok sc_leaves_of (fun vs H Q E h => ?_) (fun cdv A outer s H vs Q E hr h => ?_)
  · obtain ⟨v, d, rfl, _⟩ := h
    rfl
  · obtain ⟨v, f, rfl, hd, hc, q⟩ := h
    refine ⟨_, (pss_cons (ps_set (i := 1) sc_leaves_of.nd rfl (.inl rfl) pe_dnewT)
      (pss_cons (ps_set (i := 2) sc_leaves_of.nd rfl (.inl rfl) (pe_lst (pa_cons (pv 0) pa_nil)))
      (pss_cons (ps_while PassesOwn.never (pt_truth (pv 2) (fun _ => rfl)) (pss_cons (ps_set (i := 3) sc_leaves_of.nd rfl (.inl rfl) (pe_bm0 PySem.F.plainAttrs_list PySem.F.slot_list_pop PySem.F.type_list_pop mt_pop (pv 2))) (pss_one (ps_if (pt_cmpR op_eq (pe_ix (r := rIxT K) ix_tup (pv 3) pe_int (fun _ _ => rfl)) pe_str (nomark _)) (pss_one (ps_expr (pe_bm PySem.F.plainAttrs_list PySem.F.slot_list_append PySem.F.type_list_append mt_append (pv 2) (pa_cons (pe_ix (r := rIxT K) ix_tup (pv 3) pe_int (fun _ _ => rfl)) pa_nil)))) (pss_one (ps_if (pt_cmpR op_in_seq (pe_ix (r := rIxT K) ix_tup (pv 3) pe_int (fun _ _ => rfl)) (pe_glob (v := .ref a_JOINTS) (by rfl) m_JOINTS rfl) (by rfl)) (pss_one (ps_expr (pe_bm PySem.F.plainAttrs_list PySem.F.slot_list_extend PySem.F.type_list_extend RG.mt_extT (pv 2) (pa_cons (pe_ix (r := rIxT K) ix_tup (pv 3) pe_int (fun _ _ => rfl)) pa_nil)))) (pss_one (ps_dput (L2.hu_of hr) (pv 1) (pv 3) pe_bl rfl))))))))
      (pss_one (ps_ret (pv 1)))))), ?_⟩
    intro Dd nD
    have sD := same_upd nD (o := .dT [])
    have eD : upd H Dd (.dT []) Dd = some (.dT []) := upd_same
    generalize upd H Dd (.dT []) = H1 at sD eD
    refine ⟨v, rfl, by show 1 ≤ sizeLine; decide, fun S nS => ?_⟩
    have sS := same_upd nS (o := .lst [v])
    have eS : upd H1 S (.lst [v]) S = some (.lst [v]) := upd_same
    have eD2 := sS _ _ eD
    have nHS : H S = none := none_of_same sD nS
    have nDS : Dd ≠ S := fun e => by rw [← e, eD] at nS; cases nS
    generalize upd H1 S (.lst [v]) = H2 at sS eS eD2
    refine ⟨fun m σ H' => ∃ xs fs kvs c3, m = cntL fs ∧ σ = [some v, some (.ref Dd), some (.ref S), c3] ∧ Same H H' ∧ H' Dd = some (.dT kvs) ∧ H' S = some (.lst xs) ∧ DhAll H xs (fs.map Fm.data) ∧ cntL fs + kvs.length ≤ f.cnt ∧
      ∀ j : List L2.Key, (j ∈ kvs.map (·.1) ∨ j ∈ (lvsL fs).map Fm.key) ↔ j ∈ f.lvs.map Fm.key, ⟨_, [v], [f], [], _, rfl, rfl, sD.trans sS, eD2, eS, .cons hd .nil, by simp [cntL], fun j => by simp [lvsL]⟩, ?_⟩
    rintro m σ H3 ⟨xs, fs, kvs, c3, rfl, rfl, s3, eD3, eS3, dx, bound, keys⟩
    refine ⟨.ref S, rfl, !xs.isEmpty, .inl ⟨xs, sqL eS3, rfl⟩, ?_⟩
    by_cases ne : fs = []
    · subst ne
      cases xs with
      | cons _ _ => cases dx
      | nil =>
        refine iteF ⟨.ref Dd, rfl, q Dd H3 s3 nD ⟨kvs, eD3, by omega, fun j => ?_⟩⟩
        rw [← keys j]
        simp [lvsL]
    obtain ⟨g, y, ef, ex, ey, hy, dx'⟩ := dh_snoc dx ne
    have xe : (!xs.isEmpty) = true := by rw [ex]; simp
    rw [xe]
    have cg := cnt_subs g
    have ec : cntL fs = cntL fs.dropLast + g.cnt := by
      have : cntL (fs.dropLast ++ [g]) = _ := cntL_app _ _
      rw [← ef] at this
      simpa [cntL] using this
    have el : lvsL fs = lvsL fs.dropLast ++ g.lvs := by
      have : lvsL (fs.dropLast ++ [g]) = _ := lvsL_app _ _
      rw [← ef] at this
      simpa [lvsL] using this
    refine iteT ⟨fun σ H' => ∃ m', m' < cntL fs ∧ ∃ xs fs kvs c3, m' = cntL fs ∧ σ = [some v, some (.ref Dd), some (.ref S), c3] ∧ Same H H' ∧ H' Dd = some (.dT kvs) ∧ H' S = some (.lst xs) ∧ DhAll H xs (fs.map Fm.data) ∧ cntL fs + kvs.length ≤ f.cnt ∧
      ∀ j : List L2.Key, (j ∈ kvs.map (·.1) ∨ j ∈ (lvsL fs).map Fm.key) ↔ j ∈ f.lvs.map Fm.key, fun _ _ z => z, ?_⟩
    have upS : ∀ zs : List V, Same H (upd H3 S (.lst zs)) := fun zs b o e => by rw [upd_ne (fun z => by rw [z, nHS] at e; cases e)]; exact s3 _ _ e
    refine ⟨.ref S, rfl, .inl ⟨rfl, _, sqL eS3⟩, S, xs, y, rfl, rfl, eS3, ey, ?_⟩
    have s4 := upS xs.dropLast
    have eS4 : upd H3 S (.lst xs.dropLast) S = some (.lst xs.dropLast) := upd_same
    have eD4 : upd H3 S (.lst xs.dropLast) Dd = some (.dT kvs) := by rw [upd_ne nDS]; exact eD3
    generalize upd H3 S (.lst xs.dropLast) = H4 at s4 eS4 eD4
    have upS4 : ∀ zs : List V, Same H (upd H4 S (.lst zs)) := fun zs b o e => by rw [upd_ne (fun z => by rw [z, nHS] at e; cases e)]; exact s4 _ _ e
    have lx : xs.dropLast.length ≤ 100000 := by
      have := dx'.length
      rw [List.length_map] at this
      have h2 : fs.dropLast.length ≤ cntL fs.dropLast := by
        generalize fs.dropLast = l
        induction l with
        | nil => simp
        | cons a r ih => have := a.cnt_pos; simp only [List.length_cons, cntL]; omega
      omega
    -- a part that isn't a leaf: its own parts are put
    have push : ∀ (zs : List V), DhAll H zs (g.subs.map Fm.data) → g.isLeaf = false → ∃ m', m' < cntL fs ∧ ∃ xs' fs' kvs' c3', m' = cntL fs' ∧ [some v, some (.ref Dd), some (.ref S), some y] = [some v, some (.ref Dd), some (.ref S), c3'] ∧ Same H (upd H4 S (.lst (xs.dropLast ++ zs))) ∧ upd H4 S (.lst (xs.dropLast ++ zs)) Dd = some (.dT kvs') ∧
        upd H4 S (.lst (xs.dropLast ++ zs)) S = some (.lst xs') ∧ DhAll H xs' (fs'.map Fm.data) ∧ cntL fs' + kvs'.length ≤ f.cnt ∧ ∀ j : List L2.Key, (j ∈ kvs'.map (·.1) ∨ j ∈ (lvsL fs').map Fm.key) ↔ j ∈ f.lvs.map Fm.key := fun zs hz lf => by
      refine ⟨_, ?_, xs.dropLast ++ zs, fs.dropLast ++ g.subs, kvs, _, rfl, rfl, upS4 _, by rw [upd_ne nDS]; exact eD4, upd_same, ?_, ?_, fun j => ?_⟩
      · rw [cntL_app]; omega
      · rw [List.map_append]; exact DhAll.app _ _ _ _ dx' hz
      · rw [cntL_app]; omega
      · rw [← keys j, el, lvsL_app, subs_lvs lf]
    obtain ⟨a, rfl, cs⟩ := subs_dh hy
    rcases cs with cs | cs | cs | ⟨g2, x2, rfl, ea, h2⟩ | ⟨w2, gs, a2, zs, rfl, ea, ea2, hz⟩
    iterate 3
      obtain ⟨leaf, ea⟩ : g.isLeaf = true ∧ H a = some (.tup (g.key.map kV)) := by
        first
        | (obtain ⟨b, rfl, e⟩ := cs; exact ⟨rfl, e⟩)
        | (obtain ⟨b, c, rfl, e⟩ := cs; exact ⟨rfl, e⟩)
      obtain ⟨kk, k2, ek, n1, n2⟩ : ∃ kk k2, g.key = [.inr kk, k2] ∧ kk ≠ "not" ∧ (["and", "or"] : List Str).any (fun y => decide (kk = y)) = false := by
        first
        | (obtain ⟨b, rfl, e⟩ := cs; exact ⟨_, _, rfl, by simp, by simp⟩)
        | (obtain ⟨b, c, rfl, e⟩ := cs; exact ⟨_, _, rfl, by cases b <;> simp [eK], by cases b <;> simp [eK]⟩)
      have ea4 := s4 _ _ ea
      refine ⟨.ref a, rfl, a, g.key.map kV, 0, .str kk, rfl, rfl, sqT ea4, by rw [ek]; rfl, rfl, _, rfl, ?_⟩
      rw [strEq, decide_eq_false n1]
      refine iteF ⟨.ref a, rfl, a, g.key.map kV, 0, .str kk, rfl, rfl, sqT ea4, by rw [ek]; rfl, a_JOINTS, (["and", "or"] : List Str).map V.str, rfl, .inr (hJ H4), rfl, rfl, _, rfl, ?_⟩
      show if (if false = true then _ else inV (.str kk) ((["and", "or"] : List Str).map V.str)) = true then _ else _
      rw [if_neg Bool.false_ne_true, inStr, n2]
      refine iteF ⟨.ref Dd, rfl, .ref a, rfl, Dd, _, rfl, DPut.t eD4 ea4 (by rw [sizeLine_eq]; omega), ?_⟩
      have lp := len_put kvs g.key (V.bl true)
      refine ⟨_, ?_, xs.dropLast, fs.dropLast, putK kvs g.key (.bl true), _, rfl, rfl, fun b o e => by rw [upd_ne (fun z => by rw [z, nD] at e; cases e)]; exact s4 _ _ e, upd_same, by rw [upd_ne (Ne.symm nDS)]; exact eS4, dx', ?_, fun j => ?_⟩
      · have := g.cnt_pos; omega
      · have := g.cnt_pos; omega
      · rw [← keys j, keys_put, el, List.map_append, List.mem_append, (leaf_lvs leaf).1]
        simp only [List.map_cons, List.map_nil, List.mem_singleton]
        constructor
        · rintro ((h | h) | h)
          · exact .inl h
          · exact .inr (.inr h)
          · exact .inr (.inl h)
        · rintro (h | h | h)
          · exact .inl (.inl h)
          · exact .inr h
          · exact .inl (.inr h)
    · have ea4 := s4 _ _ ea
      refine ⟨.ref a, rfl, a, _, 0, .str "not", rfl, rfl, sqT ea4, rfl, rfl, _, rfl, ?_⟩
      rw [strEq, decide_eq_true rfl]
      exact iteT ⟨.ref S, rfl, .inl ⟨rfl, _, sqL eS4⟩, .ref a, rfl, a, _, 1, x2, rfl, rfl, sqT ea4, rfl, S, _, x2, rfl, rfl, eS4, by rw [sizeLine_eq]; omega, push [x2] (.cons h2 .nil) rfl⟩
    · have ea4 := s4 _ _ ea
      refine ⟨.ref a, rfl, a, _, 0, .str (jK w2), rfl, rfl, sqT ea4, rfl, rfl, _, rfl, ?_⟩
      rw [strEq, decide_eq_false (by cases w2 <;> simp [jK])]
      refine iteF ⟨.ref a, rfl, a, _, 0, .str (jK w2), rfl, rfl, sqT ea4, rfl, a_JOINTS, (["and", "or"] : List Str).map V.str, rfl, .inr (hJ H4), rfl, rfl, _, rfl, ?_⟩
      show if (if false = true then _ else inV (.str (jK w2)) ((["and", "or"] : List Str).map V.str)) = true then _ else _
      rw [if_neg Bool.false_ne_true, inStr, show (["and", "or"] : List Str).any (fun y => decide (jK w2 = y)) = true by cases w2 <;> simp [jK]]
      have zl := hz.length
      rw [List.length_map] at zl
      have gl : gs.length ≤ cntL gs := by
        have : ∀ l : List Fm, l.length ≤ cntL l := fun l => by
          induction l with
          | nil => simp
          | cons a r ih => have := a.cnt_pos; simp only [List.length_cons, cntL]; omega
        exact this gs
      have : (Fm.joint w2 gs).cnt = cntL gs + 1 := by simp [Fm.cnt]
      exact iteT ⟨.ref S, rfl, .inl ⟨rfl, _, sqL eS4⟩, .ref a, rfl, a, _, 1, .ref a2, rfl, rfl, sqT ea4, rfl, S, a2, _, zs, rfl, rfl, eS4, sqT (s4 _ _ ea2), by rw [sizeLine_eq]; omega, push zs hz rfl⟩
end
end K7

set_option Elab.async false
set_option linter.all false
set_option maxRecDepth 100000
set_option maxHeartbeats 4000000
namespace K7
open PySem PySem.Spec PyProof.Rows L2 GX NdefX
open SX
/-! ### the names a formula tells -/
def nmOf : Fm → Option Str
  | .name x => some x
  | .edge _ x => some x
  | _ => none
def edOf : Fm → Option Str
  | .edge _ x => some x
  | _ => none
def Fm.nms (f : Fm) : List Str := f.lvs.filterMap nmOf
def Fm.eds (f : Fm) : List Str := f.lvs.filterMap edOf
def bName : List L2.Key → Bool
  | [.inr k, _] => decide (k ≠ "bit")
  | _ => false
def bEdge : List L2.Key → Bool
  | [.inr k, _] => (["rise", "fall"] : List Str).any fun y => decide (k = y)
  | _ => false
def gOne (kk : List L2.Key) : L2.Key := kk.getD 1 (.inl 0)
theorem leaf_key {g : Fm} (h : g.isLeaf = true) : ∃ k k2, g.key = [.inr k, k2] := by
  cases g with
  | bit b => exact ⟨_, _, rfl⟩
  | name x => exact ⟨_, _, rfl⟩
  | edge r x => exact ⟨_, _, rfl⟩
  | not _ => cases h
  | joint _ _ => cases h
theorem name_leaf {g : Fm} (h : g.isLeaf = true) (x : Str) : (bName g.key = true ∧ gOne g.key = .inr x) ↔ nmOf g = some x := by
  cases g with
  | bit b => simp [Fm.key, bName, nmOf]
  | name y => simp [Fm.key, bName, nmOf, gOne]
  | edge r y => cases r <;> simp [Fm.key, bName, nmOf, gOne, eK]
  | not _ => cases h
  | joint _ _ => cases h
theorem edge_leaf {g : Fm} (h : g.isLeaf = true) (x : Str) : (bEdge g.key = true ∧ gOne g.key = .inr x) ↔ edOf g = some x := by
  cases g with
  | bit b => simp [Fm.key, bEdge, edOf]
  | name y => simp [Fm.key, bEdge, edOf, gOne]
  | edge r y => cases r <;> simp [Fm.key, bEdge, edOf, gOne, eK]
  | not _ => cases h
  | joint _ _ => cases h
theorem name_txt {g : Fm} (h : g.isLeaf = true) (b : bName g.key = true) : ∃ x, gOne g.key = .inr x := by
  cases g with
  | bit b => simp [Fm.key, bName] at b
  | name y => exact ⟨y, rfl⟩
  | edge r y => exact ⟨y, rfl⟩
  | not _ => cases h
  | joint _ _ => cases h
theorem edge_txt {g : Fm} (h : g.isLeaf = true) (b : bEdge g.key = true) : ∃ x, gOne g.key = .inr x := by
  cases g with
  | bit b => simp [Fm.key, bEdge] at b
  | name y => exact ⟨y, rfl⟩
  | edge r y => exact ⟨y, rfl⟩
  | not _ => cases h
  | joint _ _ => cases h
/-- ys are just the names told, in order, each once -/
def Told (ys zs : List Str) : Prop := Up ys ∧ ys.Nodup ∧ ∀ z, z ∈ ys ↔ z ∈ zs
def spTold (g : Fm → List Str) : Sp := fun vs H Q _ => ∃ (v : V) (f : Fm), vs = [v] ∧ Dh H v f.data ∧ f.cnt ≤ 3900 ∧ ∀ ys a H1, Told ys (g f) → Same H H1 → H1 a = some (.tup (ys.map V.str)) → Q (.ref a) H1
def spEdges : Sp := fun vs H Q _ => ∃ (v : V) (f : Fm), vs = [v] ∧ Dh H v f.data ∧ f.cnt ≤ 3900 ∧ ∀ H1, Same H H1 → Q (.bl (decide (f.eds ≠ []))) H1
def spToldC (C : Addr) (g : Fm → List Str) : Sp := fun vs H Q E => ∃ (v : V) (d : PyData), vs = [v] ∧ Arg H v d ∧ (formL 40 [d] = false → RaiN E C H) ∧
  (formL 40 [d] = true → ∃ f : Fm, d = f.data ∧ f.cnt ≤ 3900 ∧ ∀ ys a H1, Told ys (g f) → Same H H1 → H1 a = some (.tup (ys.map V.str)) → Q (.ref a) H1)
def spPlain (C : Addr) : Sp := fun vs H Q E => ∃ (v : V) (d : PyData), vs = [v] ∧ Arg H v d ∧ (formL 40 [d] = false → RaiN E C H) ∧ (formL 40 [d] = true → ∃ f : Fm, d = f.data ∧ f.cnt ≤ 3900 ∧ ∀ H1, Same H H1 → Q (.bl (decide (f.eds = []))) H1)
/-- the keys of the set are the names told -/
theorem told_keys {f : Fm} {kvs : List (List L2.Key × V)} {ks : List L2.Key} {B : List L2.Key → Bool} {h : Fm → Option Str} (keys : ∀ k, k ∈ kvs.map (·.1) ↔ k ∈ f.lvs.map Fm.key) (mem : ∀ k, k ∈ ks ↔ ∃ kk ∈ kvs.map (·.1), B kk = true ∧ gOne kk = k)
    (hb : ∀ g : Fm, g.isLeaf = true → ∀ x, (B g.key = true ∧ gOne g.key = .inr x) ↔ h g = some x) (ht : ∀ g : Fm, g.isLeaf = true → B g.key = true → ∃ x, gOne g.key = .inr x) :
    ks = (ks.map kt).map Sum.inr ∧ ∀ x, x ∈ ks.map kt ↔ x ∈ f.lvs.filterMap h := by
  have all : ∀ k ∈ ks, ∃ x, k = .inr x := fun k mk => by
    obtain ⟨kk, m, b, e⟩ := (mem k).mp mk
    obtain ⟨g, mg, rfl⟩ := List.mem_map.mp ((keys kk).mp m)
    obtain ⟨x, ex⟩ := ht g (lvs_leaf f g mg) b
    exact ⟨x, e ▸ ex⟩
  have e1 : ks = (ks.map kt).map Sum.inr := by
    rw [List.map_map]
    refine (List.map_id ks).symm.trans (List.map_congr_left fun k mk => ?_)
    obtain ⟨x, rfl⟩ := all k mk
    rfl
  refine ⟨e1, fun x => ?_⟩
  have e2 : x ∈ ks.map kt ↔ (Sum.inr x : L2.Key) ∈ ks := by
    constructor
    · intro m
      obtain ⟨k, mk, e⟩ := List.mem_map.mp m
      obtain ⟨y, rfl⟩ := all k mk
      rw [← show y = x from e]; exact mk
    · intro m; exact List.mem_map.mpr ⟨_, m, rfl⟩
  rw [e2, mem, List.mem_filterMap]
  constructor
  · rintro ⟨kk, m, b, e⟩
    obtain ⟨g, mg, rfl⟩ := List.mem_map.mp ((keys kk).mp m)
    exact ⟨g, mg, (hb g (lvs_leaf f g mg) x).mp ⟨b, e⟩⟩
  · rintro ⟨g, mg, e⟩
    obtain ⟨b, e3⟩ := (hb g (lvs_leaf f g mg) x).mpr e
    exact ⟨g.key, (keys _).mpr (List.mem_map.mpr ⟨g, mg, rfl⟩), b, e3⟩
section
variable {P : Program} {w : World} {K : PySem.W.Frag} {mg : Str → Option Value} {base : Heap}
theorem key_got {f : Fm} {kvs : List (List L2.Key × V)} {kk : List L2.Key} (keys : ∀ k, k ∈ kvs.map (·.1) ↔ k ∈ f.lvs.map Fm.key) (m : kk ∈ kvs.map (·.1)) : ∃ k k2, kk = [.inr k, k2] := by
  obtain ⟨g, mg, rfl⟩ := List.mem_map.mp ((keys kk).mp m)
  exact leaf_key (lvs_leaf f g mg)
theorem ok_told_names {k : Nat} (D : Pr P K mg) : FnOk P w K mg base CX0 (k + 2) D.told_names.f D.told_names.fd ["formula"] (spTold Fm.nms) := by
  have G_leaves_of : FnOk P w K mg base CX0 (k + 1) D.leaves_of.f D.leaves_of.fd ["formula"] spLeaves := ok_leaves D
  refine D.told_names.F.ok sc_told_names (fun vs H Q E h => ?_) (fun cdv A outer s H vs Q E hr h => ?_)
  · obtain ⟨v, d, rfl, _⟩ := h
    rfl
  · obtain ⟨v, f, rfl, hd, hc, q⟩ := h
    refine ⟨_, (pss_one (ps_ret (pe_callTy call_tuple_of (by rfl) D.B.tuple (by decide +kernel) (pa_cons (pe_callB (SX.cr_sortX rfl) (by rfl) D.B.sorted (by decide +kernel) (pa_cons (SX.pe_set (own := [("leaf", 1)]) (g := (gName 1)) rfl sc_told_names.nd (pi_keys (RG.pe_froze (pe_call G_leaves_of (hr.mono (by omega)) (by rfl) D.leaves_of.g D.leaves_of.F.kp D.leaves_of.b .nil pass0 (pa_cons (pv 0) pa_nil)))) (blkOk_by (own := [("leaf", 1)]) (N := n_told_names) (sc := defScope s_told_names) (by decide +kernel)) (fun _ _ _ _ _ => (pg_name (i := 1) sc_told_names.nd rfl (.inl rfl))) (fun _ _ _ _ _ => (pts_one (pt_cmpR op_ne (pe_ix (r := rIxT K) ix_tup (pv 1) pe_int (fun _ _ => rfl)) pe_str (nomark _)))) (fun _ _ _ _ _ => (pe_ix (r := rIxT K) ix_tup (pv 1) pe_int (fun _ _ => rfl)))) pa_nil)) pa_nil)))), ?_⟩
    refine ⟨v, rfl, v, f, rfl, hd, by omega, fun Dd H1 s1 nD ld => ?_⟩
    obtain ⟨kvs, eD, few, keys⟩ := ld
    refine ⟨Dd, .dT kvs, rfl, eD, trivial, fun od => ?_⟩
    have sF : Same H (upd H1 Dd (.frz od (.dT kvs))) := fun b o e => by rw [upd_ne (fun z => by rw [z, nD] at e; cases e)]; exact s1 _ _ e
    have eF : upd H1 Dd (.frz od (.dT kvs)) Dd = some (.frz od (.dT kvs)) := upd_same
    generalize upd H1 Dd (.frz od (.dT kvs)) = H2 at sF eF
    refine ⟨Dd, od, rfl, .inr ⟨kvs, eF, setKT (c := 1) bName gOne eF (by omega) ?_ ?_ ?_⟩⟩
    · intro kk qa H3 Qt m e s3 h
      obtain ⟨k1, k2, rfl⟩ := key_got keys m
      refine ⟨.ref qa, rfl, qa, _, 0, .str k1, rfl, rfl, sqT e, rfl, rfl, _, rfl, ?_⟩
      show Qt (!decide (V.str k1 = V.str "bit")) H3
      rw [strEq]
      have : bName [.inr k1, k2] = !decide (k1 = "bit") := by simp [bName]
      rw [this] at h
      exact h
    · intro kk qa H3 Qe m b e s3 h
      obtain ⟨k1, k2, rfl⟩ := key_got keys m
      exact ⟨.ref qa, rfl, qa, _, 1, kV k2, rfl, rfl, sqT e, rfl, h⟩
    · intro S H3 ks nS s3 eS mem
      obtain ⟨e1, e2⟩ := told_keys keys mem (fun g l x => name_leaf l x) (fun g l b => name_txt l b)
      rw [e1] at eS
      refine ⟨S, ks.map kt, rfl, eS, fun ys L pm nd up nL => ?_⟩
      have sL := same_upd nL (o := .lst (ys.map V.str))
      refine tupOf (.inl upd_same) fun p H5 s5 ep => q ys p H5 ⟨up, nd, fun z => by rw [pm.mem_iff]; exact e2 z⟩ (sF.trans (s3.trans (sL.trans s5))) ep
theorem ok_told_edges {k : Nat} (D : Pr P K mg) : FnOk P w K mg base CX0 (k + 2) D.told_edges.f D.told_edges.fd ["formula"] (spTold Fm.eds) := by
  have G_leaves_of : FnOk P w K mg base CX0 (k + 1) D.leaves_of.f D.leaves_of.fd ["formula"] spLeaves := ok_leaves D
  obtain ⟨a_EDGES, m_EDGES, hE⟩ := D.k_EDGES
  refine D.told_edges.F.ok sc_told_edges (fun vs H Q E h => ?_) (fun cdv A outer s H vs Q E hr h => ?_)
  · obtain ⟨v, d, rfl, _⟩ := h
    rfl
  · obtain ⟨v, f, rfl, hd, hc, q⟩ := h
    refine ⟨_, (pss_one (ps_ret (pe_callTy call_tuple_of (by rfl) D.B.tuple (by decide +kernel) (pa_cons (pe_callB (SX.cr_sortX rfl) (by rfl) D.B.sorted (by decide +kernel) (pa_cons (SX.pe_set (own := [("leaf", 1)]) (g := (gName 1)) rfl sc_told_edges.nd (pi_keys (RG.pe_froze (pe_call G_leaves_of (hr.mono (by omega)) (by rfl) D.leaves_of.g D.leaves_of.F.kp D.leaves_of.b .nil pass0 (pa_cons (pv 0) pa_nil)))) (blkOk_by (own := [("leaf", 1)]) (N := n_told_edges) (sc := defScope s_told_edges) (by decide +kernel)) (fun _ _ _ _ _ => (pg_name (i := 1) sc_told_edges.nd rfl (.inl rfl))) (fun _ _ _ _ _ => (pts_one (pt_cmpR (r := rIn K false) op_in_seq (pe_ix (r := rIxT K) ix_tup (pv 1) pe_int (fun _ _ => rfl)) (pe_glob (v := .ref a_EDGES) (by rfl) m_EDGES rfl) (by rfl)))) (fun _ _ _ _ _ => (pe_ix (r := rIxT K) ix_tup (pv 1) pe_int (fun _ _ => rfl)))) pa_nil)) pa_nil)))), ?_⟩
    refine ⟨v, rfl, v, f, rfl, hd, by omega, fun Dd H1 s1 nD ld => ?_⟩
    obtain ⟨kvs, eD, few, keys⟩ := ld
    refine ⟨Dd, .dT kvs, rfl, eD, trivial, fun od => ?_⟩
    have sF : Same H (upd H1 Dd (.frz od (.dT kvs))) := fun b o e => by rw [upd_ne (fun z => by rw [z, nD] at e; cases e)]; exact s1 _ _ e
    have eF : upd H1 Dd (.frz od (.dT kvs)) Dd = some (.frz od (.dT kvs)) := upd_same
    generalize upd H1 Dd (.frz od (.dT kvs)) = H2 at sF eF
    refine ⟨Dd, od, rfl, .inr ⟨kvs, eF, setKT (c := 1) bEdge gOne eF (by omega) ?_ ?_ ?_⟩⟩
    · intro kk qa H3 Qt m e s3 h
      obtain ⟨k1, k2, rfl⟩ := key_got keys m
      refine ⟨.ref qa, rfl, qa, _, 0, .str k1, rfl, rfl, sqT e, rfl, a_EDGES, (["rise", "fall"] : List Str).map V.str, rfl, .inr (hE H3), rfl, rfl, _, rfl, ?_⟩
      show Qt (if false = true then _ else inV (.str k1) ((["rise", "fall"] : List Str).map V.str)) H3
      rw [if_neg Bool.false_ne_true, inStr]
      exact h
    · intro kk qa H3 Qe m b e s3 h
      obtain ⟨k1, k2, rfl⟩ := key_got keys m
      exact ⟨.ref qa, rfl, qa, _, 1, kV k2, rfl, rfl, sqT e, rfl, h⟩
    · intro S H3 ks nS s3 eS mem
      obtain ⟨e1, e2⟩ := told_keys keys mem (fun g l x => edge_leaf l x) (fun g l b => edge_txt l b)
      rw [e1] at eS
      refine ⟨S, ks.map kt, rfl, eS, fun ys L pm nd up nL => ?_⟩
      have sL := same_upd nL (o := .lst (ys.map V.str))
      refine tupOf (.inl upd_same) fun p H5 s5 ep => q ys p H5 ⟨up, nd, fun z => by rw [pm.mem_iff]; exact e2 z⟩ (sF.trans (s3.trans (sL.trans s5))) ep
theorem ok_has_edges {k : Nat} (D : Pr P K mg) : FnOk P w K mg base CX0 (k + 2) D.has_edges.f D.has_edges.fd ["formula"] spEdges := by
  have G_leaves_of : FnOk P w K mg base CX0 (k + 1) D.leaves_of.f D.leaves_of.fd ["formula"] spLeaves := ok_leaves D
  obtain ⟨a_EDGES, m_EDGES, hE⟩ := D.k_EDGES
  refine D.has_edges.F.ok sc_has_edges (fun vs H Q E h => ?_) (fun cdv A outer s H vs Q E hr h => ?_)
  · obtain ⟨v, d, rfl, _⟩ := h
    rfl
  · obtain ⟨v, f, rfl, hd, hc, q⟩ := h
    refine ⟨_, (pss_one (ps_ret (pe_callB (cr_any rfl) (by rfl) D.B.any (by decide +kernel) (pa_cons (pe_lc (own := [("leaf", 1)]) (g := (gName 1)) (tt := tYes) rfl sc_has_edges.nd (pi_keys (RG.pe_froze (pe_call G_leaves_of (hr.mono (by omega)) (by rfl) D.leaves_of.g D.leaves_of.F.kp D.leaves_of.b .nil pass0 (pa_cons (pv 0) pa_nil)))) (blkOk_by (own := [("leaf", 1)]) (N := n_has_edges) (sc := defScope s_has_edges) (by decide +kernel)) (fun _ _ _ _ _ => (pg_name (i := 1) sc_has_edges.nd rfl (.inl rfl))) (fun _ _ _ _ _ => pts_nil) (fun _ _ _ _ _ => (pe_cmpR (r := rIn K false) op_in_seq (pe_ix (r := rIxT K) ix_tup (pv 1) pe_int (fun _ _ => rfl)) (pe_glob (v := .ref a_EDGES) (by rfl) m_EDGES rfl) (by rfl)))) pa_nil)))), ?_⟩
    refine ⟨v, rfl, v, f, rfl, hd, by omega, fun Dd H1 s1 nD ld => ?_⟩
    obtain ⟨kvs, eD, few, keys⟩ := ld
    refine ⟨Dd, .dT kvs, rfl, eD, trivial, fun od => ?_⟩
    have sF : Same H (upd H1 Dd (.frz od (.dT kvs))) := fun b o e => by rw [upd_ne (fun z => by rw [z, nD] at e; cases e)]; exact s1 _ _ e
    have eF : upd H1 Dd (.frz od (.dT kvs)) Dd = some (.frz od (.dT kvs)) := upd_same
    generalize upd H1 Dd (.frz od (.dT kvs)) = H2 at sF eF
    refine ⟨Dd, od, rfl, .inr ⟨kvs, eF, lcKT (c := 1) bEdge eF (by omega) ?_ ?_⟩⟩
    · intro kk qa H3 Qe m e s3 h
      obtain ⟨k1, k2, rfl⟩ := key_got keys m
      refine ⟨.ref qa, rfl, qa, _, 0, .str k1, rfl, rfl, sqT e, rfl, a_EDGES, (["rise", "fall"] : List Str).map V.str, rfl, .inr (hE H3), rfl, rfl, ?_⟩
      show Qe (.bl (if false = true then _ else inV (.str k1) ((["rise", "fall"] : List Str).map V.str))) H3
      rw [if_neg Bool.false_ne_true, inStr]
      exact h
    · intro L H3 nL s3 eL
      refine ⟨L, _, rfl, sqL eL, ?_⟩
      have e : (kvs.map fun p => bEdge p.1).any id = decide (f.eds ≠ []) := by
        rw [List.any_map]
        by_cases h : f.eds = []
        · rw [decide_eq_false (fun z => z h)]
          rw [List.any_eq_false]
          intro p mp z
          obtain ⟨g, mg, eg⟩ := List.mem_map.mp ((keys p.1).mp (List.mem_map.mpr ⟨p, mp, rfl⟩))
          have z : bEdge p.1 = true := z
          rw [← eg] at z
          obtain ⟨x, ex⟩ := edge_txt (lvs_leaf f g mg) z
          have := (edge_leaf (lvs_leaf f g mg) x).mp ⟨z, ex⟩
          have m : x ∈ f.eds := List.mem_filterMap.mpr ⟨g, mg, this⟩
          rw [h] at m; simp at m
        · rw [decide_eq_true h]
          obtain ⟨x, mx⟩ := List.exists_mem_of_ne_nil _ h
          obtain ⟨g, mg, eg⟩ := List.mem_filterMap.mp mx
          obtain ⟨b, -⟩ := (edge_leaf (lvs_leaf f g mg) x).mpr eg
          obtain ⟨p, mp, ep⟩ := List.mem_map.mp ((keys g.key).mpr (List.mem_map.mpr ⟨g, mg, rfl⟩))
          rw [List.any_eq_true]
          exact ⟨p, mp, by show bEdge p.1 = true; rw [ep]; exact b⟩
      rw [e]
      exact q H3 (sF.trans s3)
theorem ok_plain {k : Nat} (D : Pr P K mg) : FnOk P w K mg base (CX P w) (k + 6) D.is_plain.f D.is_plain.fd ["formula"] (spPlain D.BadFormula.C) := by
  have G_check_formula : FnOk P w K mg base (CX P w) (k + 5) D.check_formula.f D.check_formula.fd ["formula"] (spCheck D.BadFormula.C) := ok_check D
  have G_has_edges : FnOk P w K mg base CX0 (k + 2) D.has_edges.f D.has_edges.fd ["formula"] spEdges := ok_has_edges D
  refine D.is_plain.F.okX sc_is_plain (fun vs H Q E h => ?_) (fun cdv A outer s H vs Q E hr h => ?_)
  · obtain ⟨v, d, rfl, _⟩ := h
    rfl
  · obtain ⟨v, d, rfl, ad, q1, q2⟩ := h
    refine ⟨_, (pss_cons (ps_expr (pe_call G_check_formula (hr.mono (by omega)) (by rfl) D.check_formula.g D.check_formula.F.kp D.check_formula.b .nil (passes_call (takes_of rfl rfl rfl rfl) (fun _ _ _ _ h => h)) (pa_cons (pv 0) pa_nil)))
      (pss_one (ps_ret (pe_not (pe_call G_has_edges (hr.mono (by omega)) (by rfl) D.has_edges.g D.has_edges.F.kp D.has_edges.b .nil pass0 (pa_cons (pv 0) pa_nil)))))), ?_⟩
    refine ⟨v, rfl, v, d, rfl, ad, fun e H1 s1 => ?_, q1⟩
    obtain ⟨f, rfl, hc, q⟩ := q2 e
    refine ⟨v, rfl, v, f, rfl, ad.dh.same s1, hc, fun H2 s2 => ⟨_, rfl, ?_⟩⟩
    have q := q H2 (s1.trans s2)
    rw [show (!decide (f.eds ≠ [])) = decide (f.eds = []) by by_cases h : f.eds = [] <;> simp [h]]
    exact q
theorem ok_names {k : Nat} (D : Pr P K mg) : FnOk P w K mg base (CX P w) (k + 6) D.names_of.f D.names_of.fd ["formula"] (spToldC D.BadFormula.C Fm.nms) := by
  have G_check_formula : FnOk P w K mg base (CX P w) (k + 5) D.check_formula.f D.check_formula.fd ["formula"] (spCheck D.BadFormula.C) := ok_check D
  have G_told_names : FnOk P w K mg base CX0 (k + 2) D.told_names.f D.told_names.fd ["formula"] (spTold Fm.nms) := ok_told_names D
  refine D.names_of.F.okX sc_names_of (fun vs H Q E h => ?_) (fun cdv A outer s H vs Q E hr h => ?_)
  · obtain ⟨v, d, rfl, _⟩ := h
    rfl
  · obtain ⟨v, d, rfl, ad, q1, q2⟩ := h
    refine ⟨_, (pss_cons (ps_expr (pe_call G_check_formula (hr.mono (by omega)) (by rfl) D.check_formula.g D.check_formula.F.kp D.check_formula.b .nil (passes_call (takes_of rfl rfl rfl rfl) (fun _ _ _ _ h => h)) (pa_cons (pv 0) pa_nil)))
      (pss_one (ps_ret (pe_call G_told_names (hr.mono (by omega)) (by rfl) D.told_names.g D.told_names.F.kp D.told_names.b .nil pass0 (pa_cons (pv 0) pa_nil))))), ?_⟩
    refine ⟨v, rfl, v, d, rfl, ad, fun e H1 s1 => ?_, q1⟩
    obtain ⟨f, rfl, hc, q⟩ := q2 e
    exact ⟨v, rfl, v, f, rfl, ad.dh.same s1, hc, fun ys a H2 t s2 => q ys a H2 t (s1.trans s2)⟩
theorem ok_edges {k : Nat} (D : Pr P K mg) : FnOk P w K mg base (CX P w) (k + 6) D.edges_of.f D.edges_of.fd ["formula"] (spToldC D.BadFormula.C Fm.eds) := by
  have G_check_formula : FnOk P w K mg base (CX P w) (k + 5) D.check_formula.f D.check_formula.fd ["formula"] (spCheck D.BadFormula.C) := ok_check D
  have G_told_edges : FnOk P w K mg base CX0 (k + 2) D.told_edges.f D.told_edges.fd ["formula"] (spTold Fm.eds) := ok_told_edges D
  refine D.edges_of.F.okX sc_edges_of (fun vs H Q E h => ?_) (fun cdv A outer s H vs Q E hr h => ?_)
  · obtain ⟨v, d, rfl, _⟩ := h
    rfl
  · obtain ⟨v, d, rfl, ad, q1, q2⟩ := h
    refine ⟨_, (pss_cons (ps_expr (pe_call G_check_formula (hr.mono (by omega)) (by rfl) D.check_formula.g D.check_formula.F.kp D.check_formula.b .nil (passes_call (takes_of rfl rfl rfl rfl) (fun _ _ _ _ h => h)) (pa_cons (pv 0) pa_nil)))
      (pss_one (ps_ret (pe_call G_told_edges (hr.mono (by omega)) (by rfl) D.told_edges.g D.told_edges.F.kp D.told_edges.b .nil pass0 (pa_cons (pv 0) pa_nil))))), ?_⟩
    refine ⟨v, rfl, v, d, rfl, ad, fun e H1 s1 => ?_, q1⟩
    obtain ⟨f, rfl, hc, q⟩ := q2 e
    exact ⟨v, rfl, v, f, rfl, ad.dh.same s1, hc, fun ys a H2 t s2 => q ys a H2 t (s1.trans s2)⟩
end
end K7

set_option Elab.async false
set_option linter.all false
set_option maxRecDepth 100000
set_option maxHeartbeats 4000000
namespace K7
open PySem PySem.Spec PyProof.Rows L2 GX NdefX
/-! ### texts as rows of signs -/
def T (l : List Nat) : Str := ⟨l.toArray⟩
@[simp] theorem T_list (l : List Nat) : (T l).cps.toList = l := rfl
@[simp] theorem T_size (l : List Nat) : (T l).cps.size = l.length := by simp [T]
@[simp] theorem T_len (l : List Nat) : (T l).length = l.length := by show (T l).cps.size = _; simp
theorem T_of (z : Str) : T z.cps.toList = z := Str.ext' (by simp [T])
theorem T_app (a b : List Nat) : T a ++ T b = T (a ++ b) := Str.ext' (by show (T a).cps ++ (T b).cps = _; simp [T])
theorem T_inj {a b : List Nat} (h : T a = T b) : a = b := by
  have := congrArg (fun s : Str => s.cps.toList) h
  simpa using this
theorem T_eq {z : Str} {l : List Nat} (h : z.cps.toList = l) : z = T l := by rw [← h, T_of]
theorem T_iff (a b : List Nat) : T a = T b ↔ a = b := ⟨T_inj, fun h => h ▸ rfl⟩
def sp : List Nat := [32]
def notL : List Nat := [110, 111, 116, 32]
def jL (w : Bool) : List Nat := if w then [111, 114] else [97, 110, 100]
def eL (r : Bool) : List Nat := if r then [114, 105, 115, 101] else [102, 97, 108, 108]
theorem jK_T (w : Bool) : jK w = T (jL w) := by cases w <;> decide +kernel
theorem eK_T (r : Bool) : eK r = T (eL r) := by cases r <;> decide +kernel
mutual
/-- the exact text -/
def Fm.txt : Fm → List Nat
  | .bit b => [if b then 49 else 48]
  | .name x => x.cps.toList
  | .edge r x => eL r ++ (32 :: x.cps.toList)
  | .not f => notL ++ f.txt
  | .joint w fs => 40 :: (joinT w fs ++ [41])
def joinT (w : Bool) : List Fm → List Nat
  | [] => []
  | f :: r => f.txt ++ moreT w r
def moreT (w : Bool) : List Fm → List Nat
  | [] => []
  | f :: r => (32 :: (jL w ++ [32])) ++ (f.txt ++ moreT w r)
end
theorem glue_more (w : Bool) (r : List Fm) : StrLaws.glueL (32 :: (jL w ++ [32])) (r.map fun f => T f.txt) = moreT w r := by
  induction r with
  | nil => rfl
  | cons f r ih => rw [List.map_cons, StrLaws.glueL, ih, moreT]; simp
theorem join_txt (w : Bool) {fs : List Fm} (ne : fs ≠ []) : Txt.join (T (32 :: (jL w ++ [32]))) (fs.map fun f => T f.txt) = T (joinT w fs) := by
  refine T_eq ?_
  cases fs with
  | nil => exact absurd rfl ne
  | cons f r =>
    show (Builtin.Str.glued _ _).cps.toList = _
    rw [List.map_cons, StrLaws.glued_list, StrLaws.glueT, T_list, T_list, glue_more, joinT]
theorem more_len (w : Bool) (r : List Fm) : (moreT w r).length = (r.map fun f => f.txt.length).sum + r.length * ((jL w).length + 2) := by
  induction r with
  | nil => simp [moreT]
  | cons f r ih => simp only [moreT, List.length_append, List.length_cons, List.length_nil, ih, List.map_cons, List.sum_cons, Nat.succ_mul]; omega
theorem sub_len {w : Bool} {fs : List Fm} {f : Fm} (h : f ∈ fs) : f.txt.length ≤ (joinT w fs).length := by
  have key : ∀ r : List Fm, f ∈ r → f.txt.length ≤ (moreT w r).length := by
    intro r
    induction r with
    | nil => intro h; simp at h
    | cons g r ih =>
      intro h
      simp only [moreT, List.length_append]
      rcases List.mem_cons.mp h with e | e
      · subst e; omega
      · have := ih e; omega
  cases fs with
  | nil => simp at h
  | cons g r =>
    simp only [joinT, List.length_append]
    rcases List.mem_cons.mp h with e | e
    · subst e; omega
    · have := key r e; omega
end K7

set_option Elab.async false
set_option linter.all false
set_option maxRecDepth 100000
set_option maxHeartbeats 4000000
namespace K7
open PySem PySem.Spec PyProof.Rows L2 GX NdefX
def spText (n : Nat) : Sp := fun vs H Q _ => ∃ (v : V) (f : Fm), vs = [v] ∧ Dh H v f.data ∧ f.dep ≤ n ∧ f.cnt ≤ 3900 ∧ f.txt.length ≤ 1000000 ∧ ∀ H1, Same H H1 → Q (.str (T f.txt)) H1
def spTextC (C : Addr) : Sp := fun vs H Q E => ∃ (v : V) (d : PyData), vs = [v] ∧ Arg H v d ∧ (formL 40 [d] = false → RaiN E C H) ∧
  (formL 40 [d] = true → ∃ f : Fm, d = f.data ∧ f.dep ≤ 40 ∧ f.cnt ≤ 3900 ∧ f.txt.length ≤ 1000000 ∧ ∀ H1, Same H H1 → Q (.str (T f.txt)) H1)
theorem range_getD {α β : Type} (g : α → β) (d : α) (fs : List α) : (List.range fs.length).map (fun i => g (fs.getD i d)) = fs.map g := by
  refine List.ext_getElem (by simp) fun i h1 h2 => ?_
  simp at h1 h2 ⊢
  rw [List.getElem?_eq_getElem h1]; rfl
theorem tStr (b : Bool) : Str.ofString (toString (if b then (1 : Int) else 0)) = T [if b then 49 else 48] := by cases b <;> decide +kernel
theorem str_spT : (Str.ofString " " : Str) = T [32] := by decide +kernel
theorem str_notT : (Str.ofString "not " : Str) = T notL := by decide +kernel
theorem str_lbT : (Str.ofString "(" : Str) = T [40] := by decide +kernel
theorem str_rbT : (Str.ofString ")" : Str) = T [41] := by decide +kernel
theorem empty_T : (Str.empty : Str) = T [] := by decide +kernel
section
variable {P : Program} {w : World} {K : PySem.W.Frag} {mg : Str → Option Value} {base : Heap}
theorem ok_told (D : Pr P K mg) (k : Nat) : ∀ n, FnOk P w K mg base CX0 (k + n) D.told_text.f D.told_text.fd ["formula"] (spText n) := by
  obtain ⟨a_EDGES, m_EDGES, hE⟩ := D.k_EDGES
  intro n
  induction n with
  | zero =>
    refine ⟨fun vs H Q E h => ?_, fun A outer s H args us vs Q E hr he hb hv h => ?_⟩
    · obtain ⟨v, f, rfl, _⟩ := h
      rfl
    · obtain ⟨v, f, rfl, _, hd, _⟩ := h
      have := f.dep_pos
      omega
  | succ n ih =>
  have G_told_text : FnOk P w K mg base CX0 (k + n) D.told_text.f D.told_text.fd ["formula"] (spText n) := ih
  refine D.told_text.F.ok sc_told_text (fun vs H Q E h => ?_) (fun cdv A outer s H vs Q E hr h => ?_)
  · obtain ⟨v, f, rfl, _⟩ := h
    rfl
  · obtain ⟨v, f, rfl, hd, hn, hc, hl, q⟩ := h
    have es : sizeLine = 16777216 := sizeLine_eq
    have hr : Room (k + n) _ := hr
    refine ⟨_, (pss_cons (ps_asg (pv 0) (pg_tup rfl (pgs_cons (pg_name (i := 1) sc_told_text.nd rfl (.inl rfl)) (pgs_cons (pg_name (i := 2) sc_told_text.nd rfl (.inl rfl)) pgs_nil))))
      (pss_cons (ps_if (pt_cmpR op_eq (pv 1) pe_str (nomark _)) (pss_one (ps_ret (pe_callTy call_str_int (by rfl) D.B.str (by decide +kernel) (pa_cons (pv 2) pa_nil)))) pss_nil)
      (pss_cons (ps_if (pt_cmpR op_eq (pv 1) pe_str (nomark _)) (pss_one (ps_ret (pv 2))) pss_nil)
      (pss_cons (ps_if (pt_cmpR op_in_seq (pv 1) (pe_glob (v := .ref a_EDGES) (by rfl) m_EDGES rfl) (by rfl)) (pss_one (ps_ret (pe_joined (PJ.cons (pe_fmt (pv 1)) (PJ.cons pe_str (PJ.cons (pe_fmt (pv 2)) PJ.nil)))))) pss_nil)
      (pss_cons (ps_if (pt_cmpR op_eq (pv 1) pe_str (nomark _)) (pss_one (ps_ret (pe_joined (PJ.cons pe_str (PJ.cons (pe_fmt (pe_call G_told_text (hr.mono (by omega)) (by rfl) D.told_text.g D.told_text.F.kp D.told_text.b .nil pass0 (pa_cons (pv 2) pa_nil))) PJ.nil))))) pss_nil)
      (pss_cons (ps_set (i := 3) sc_told_text.nd rfl (.inl rfl) (pe_joined (PJ.cons pe_str (PJ.cons (pe_fmt (pv 1)) (PJ.cons pe_str PJ.nil)))))
      (pss_cons (ps_set (i := 4) sc_told_text.nd rfl (.inl rfl) (pe_join (pv 3) (pe_lc (own := [("part", 5)]) (g := (gName 5)) (tt := tYes) rfl sc_told_text.nd (pi_tup (pv 2)) (blkOk_by (own := [("part", 5)]) (N := n_told_text) (sc := defScope s_told_text) (by decide +kernel)) (fun _ _ _ _ _ => (pg_name (i := 5) sc_told_text.nd rfl (.inl rfl))) (fun _ _ _ _ _ => pts_nil) (fun _ _ _ _ _ => (pe_call G_told_text (hr.mono (by omega)) (by rfl) D.told_text.g D.told_text.F.kp D.told_text.b .nil pass0 (pa_cons (pv 5) pa_nil))))))
      (pss_one (ps_ret (pe_joined (PJ.cons pe_str (PJ.cons (pe_fmt (pv 4)) (PJ.cons pe_str PJ.nil))))))))))))), ?_⟩
    have fmt : ∀ {z : Str}, z.length ≤ 1000000 → z.length ≤ sizeLine := fun h => by omega
    obtain ⟨a, rfl, cs⟩ := subs_dh hd
    rcases cs with ⟨b, rfl, e⟩ | ⟨x, rfl, e⟩ | ⟨r, x, rfl, e⟩ | ⟨g, x2, rfl, e, h2⟩ | ⟨w2, gs, a2, zs, rfl, e, e2, hz⟩
    · refine ⟨.ref a, rfl, a, _, rfl, sqT e, rfl, .str "bit", _, rfl, .int (if b then 1 else 0), [], rfl, rfl, ?_⟩
      refine ⟨.str "bit", rfl, rfl, _, rfl, ?_⟩
      rw [strEq, decide_eq_true rfl]
      refine iteT ⟨_, rfl, _, rfl, by cases b <;> decide, ?_⟩
      have q1 := q H (Same.refl _)
      simp only [Fm.txt] at q1
      rw [← tStr] at q1
      exact q1
    · refine ⟨.ref a, rfl, a, _, rfl, sqT e, rfl, .str "name", _, rfl, .str x, [], rfl, rfl, ?_⟩
      refine ⟨.str "name", rfl, rfl, _, rfl, ?_⟩
      rw [strEq, decide_eq_false (by simp)]
      refine iteF ⟨.str "name", rfl, rfl, _, rfl, ?_⟩
      rw [strEq, decide_eq_true rfl]
      have q1 := q H (Same.refl _)
      simp only [Fm.txt, T_of] at q1
      exact iteT ⟨_, rfl, q1⟩
    · refine ⟨.ref a, rfl, a, _, rfl, sqT e, rfl, .str (eK r), _, rfl, .str x, [], rfl, rfl, ?_⟩
      refine ⟨.str (eK r), rfl, rfl, _, rfl, ?_⟩
      rw [strEq, decide_eq_false (by cases r <;> simp [eK])]
      refine iteF ⟨.str (eK r), rfl, rfl, _, rfl, ?_⟩
      rw [strEq, decide_eq_false (by cases r <;> simp [eK])]
      refine iteF ⟨.str (eK r), rfl, a_EDGES, (["rise", "fall"] : List Str).map V.str, rfl, .inr (hE H), rfl, rfl, _, rfl, ?_⟩
      show if (if false = true then _ else inV (.str (eK r)) ((["rise", "fall"] : List Str).map V.str)) = true then _ else _
      rw [if_neg Bool.false_ne_true, inStr, show (["rise", "fall"] : List Str).any (fun y => decide (eK r = y)) = true by cases r <;> simp [eK]]
      have xl : x.length + 6 ≤ 1000006 := by
        simp only [Fm.txt, List.length_append, List.length_cons, Array.length_toList] at hl
        have : x.length = x.cps.size := rfl
        omega
      have el : (eK r).length ≤ 4 := by cases r <;> decide
      have q1 := q H (Same.refl _)
      simp only [Fm.txt] at q1
      have ex : Str.empty ++ eK r ++ " " ++ x = T (eL r ++ (32 :: x.cps.toList)) := by
        rw [eK_T, empty_T, str_spT, ← T_of x]
        simp [T_app]
      have e0 : Str.empty.length = 0 := rfl
      have e1 : (Str.ofString " ").length = 1 := by decide
      refine iteT ⟨.str (eK r), rfl, .inl ⟨eK r, rfl, by omega, eK r, rfl, by rw [lenApp]; omega, _, rfl, by rw [lenApp, lenApp]; omega, .str x, rfl, .inl ⟨x, rfl, by omega, x, rfl, by rw [lenApp, lenApp, lenApp]; omega, ?_⟩⟩⟩
      show Q (.str (Str.empty ++ eK r ++ " " ++ x)) H
      rw [ex]
      exact q1
    · refine ⟨.ref a, rfl, a, _, rfl, sqT e, rfl, .str "not", _, rfl, x2, [], rfl, rfl, ?_⟩
      refine ⟨.str "not", rfl, rfl, _, rfl, ?_⟩
      rw [strEq, decide_eq_false (by simp)]
      refine iteF ⟨.str "not", rfl, rfl, _, rfl, ?_⟩
      rw [strEq, decide_eq_false (by simp)]
      refine iteF ⟨.str "not", rfl, a_EDGES, (["rise", "fall"] : List Str).map V.str, rfl, .inr (hE H), rfl, rfl, _, rfl, ?_⟩
      show if (if false = true then _ else inV (.str "not") ((["rise", "fall"] : List Str).map V.str)) = true then _ else _
      rw [if_neg Bool.false_ne_true, inStr, show (["rise", "fall"] : List Str).any (fun y => decide ((Str.ofString "not") = y)) = false by simp]
      refine iteF ⟨.str "not", rfl, rfl, _, rfl, ?_⟩
      rw [strEq, decide_eq_true rfl]
      have gl : g.txt.length + 4 ≤ 1000000 := by
        simp only [Fm.txt, List.length_append, notL, List.length_cons, List.length_nil] at hl
        omega
      have e0 : Str.empty.length = 0 := rfl
      have e1 : (Str.ofString "not ").length = 4 := by decide
      refine iteT ⟨_, rfl, by rw [lenApp]; omega, x2, rfl, x2, g, rfl, h2, ?_, ?_, by omega, fun H1 s1 => .inl ⟨T g.txt, rfl, by rw [T_len]; omega, T g.txt, rfl, by rw [lenApp, lenApp, T_len]; omega, ?_⟩⟩
      · simp only [Fm.dep] at hn; omega
      · simp only [Fm.cnt] at hc; omega
      · have q1 := q H1 s1
        simp only [Fm.txt] at q1
        have ex : Str.empty ++ "not " ++ T g.txt = T (notL ++ g.txt) := by
          rw [empty_T, str_notT]
          simp [T_app]
        show Q (.str (Str.empty ++ "not " ++ T g.txt)) H1
        rw [ex]
        exact q1
    · refine ⟨.ref a, rfl, a, _, rfl, sqT e, rfl, .str (jK w2), _, rfl, .ref a2, [], rfl, rfl, ?_⟩
      refine ⟨.str (jK w2), rfl, rfl, _, rfl, ?_⟩
      rw [strEq, decide_eq_false (by cases w2 <;> simp [jK])]
      refine iteF ⟨.str (jK w2), rfl, rfl, _, rfl, ?_⟩
      rw [strEq, decide_eq_false (by cases w2 <;> simp [jK])]
      refine iteF ⟨.str (jK w2), rfl, a_EDGES, (["rise", "fall"] : List Str).map V.str, rfl, .inr (hE H), rfl, rfl, _, rfl, ?_⟩
      show if (if false = true then _ else inV (.str (jK w2)) ((["rise", "fall"] : List Str).map V.str)) = true then _ else _
      rw [if_neg Bool.false_ne_true, inStr, show (["rise", "fall"] : List Str).any (fun y => decide (jK w2 = y)) = false by cases w2 <;> simp [jK]]
      refine iteF ⟨.str (jK w2), rfl, rfl, _, rfl, ?_⟩
      rw [strEq, decide_eq_false (by cases w2 <;> simp [jK])]
      have e0 : Str.empty.length = 0 := rfl
      have e1 : (Str.ofString " ").length = 1 := by decide
      have jl : (jK w2).length ≤ 3 := by cases w2 <;> decide
      have zl : zs.length = gs.length := by have := hz.length; rwa [List.length_map] at this
      have gn : gs.length ≤ cntL gs := by
        have : ∀ l : List Fm, l.length ≤ cntL l := fun l => by
          induction l with
          | nil => simp
          | cons a r ih => have := a.cnt_pos; simp only [List.length_cons, cntL]; omega
        exact this gs
      simp only [Fm.cnt] at hc
      simp only [Fm.dep] at hn
      have hl2 : (joinT w2 gs).length + 2 ≤ 1000000 := by simpa [Fm.txt] using hl
      refine iteF ⟨_, rfl, by rw [lenApp]; omega, .str (jK w2), rfl, .inl ⟨jK w2, rfl, by omega, jK w2, rfl, by rw [lenApp, lenApp]; omega, _, rfl, by rw [lenApp, lenApp, lenApp]; omega, ?_⟩⟩
      have ej : Str.empty ++ " " ++ jK w2 ++ " " = T (32 :: (jL w2 ++ [32])) := by
        rw [empty_T, str_spT, jK_T]
        simp [T_app]
      refine ⟨.str _, rfl, ⟨_, rfl⟩, .ref a2, rfl, a2, rfl, ⟨_, sqT e2⟩, lcTup (vs := [5]) (fun i _ x => x = .str (T ((gs.getD i (.bit false)).txt))) (fun _ _ _ _ _ h => h) (fun _ _ _ _ _ _ _ _ h => h) e2 (by omega) ?_ ?_⟩
      · intro Dl i x H2 Qk Qn hx s2 nD eD hk
        obtain ⟨d, hd2, hdx⟩ := DhAll.get _ hz hx
        rw [List.getElem?_map] at hd2
        cases hg : gs[i]? with
        | none => rw [hg] at hd2; cases hd2
        | some g =>
          rw [hg] at hd2
          cases hd2
          have mg : g ∈ gs := List.mem_of_getElem? hg
          refine ⟨by rw [wipe1, wipe2], ?_⟩
          delta tYes
          refine iteT ⟨x, rfl, x, g, rfl, hdx.same s2, ?_, ?_, ?_, fun H3 s3 => hk _ H3 ?_ s3⟩
          · have := depL_le.mp (show depL gs ≤ n by omega) g mg
            exact this
          · have := cntL_mem mg; omega
          · have := sub_len (w := w2) mg; omega
          · rw [List.getD_eq_getElem?_getD, hg]; rfl
      · intro Dl H2 ts nD s2 eD pr
        have et : ts = (gs.map fun g => T g.txt).map V.str := by
          rw [paired_eq pr, zl, List.map_map]
          exact range_getD (fun g : Fm => V.str (T g.txt)) _ gs
        rw [et] at eD
        by_cases ne : gs = []
        · subst ne
          have q1 := q H2 s2
          refine ⟨_, Dl, [], rfl, rfl, .inl (sqL eD), by simp, ?_⟩
          refine ⟨_, rfl, by rw [lenApp]; decide, .str _, rfl, .inl ⟨_, rfl, by cases w2 <;> decide +kernel, _, rfl, by cases w2 <;> decide +kernel, _, rfl, by cases w2 <;> decide +kernel, ?_⟩⟩
          have e9 : Str.empty ++ "(" ++ Txt.join (Str.empty ++ " " ++ jK w2 ++ " ") [] ++ ")" = T (Fm.joint w2 []).txt := by
            cases w2 <;> decide +kernel
          show Q (.str (Str.empty ++ "(" ++ Txt.join (Str.empty ++ " " ++ jK w2 ++ " ") [] ++ ")")) H2
          rw [e9]; exact q1
        · have jn : Txt.join (Str.empty ++ " " ++ jK w2 ++ " ") (gs.map fun g => T g.txt) = T (joinT w2 gs) := by rw [ej]; exact join_txt w2 ne
          have ml : (joinT w2 gs).length = (gs.map fun g => g.txt.length).sum + (gs.length - 1) * ((jL w2).length + 2) := by
            cases gs with
            | nil => exact absurd rfl ne
            | cons g r => simp only [joinT, List.length_append, more_len, List.map_cons, List.sum_cons, List.length_cons]; simp; omega
          have jl2 : (jL w2).length ≤ 3 := by cases w2 <;> decide
          refine ⟨_, Dl, gs.map fun g => T g.txt, rfl, rfl, .inl (sqL eD), ?_, ?_⟩
          · rw [List.map_map, List.length_map, ej, T_len]
            have ec : ((fun x : Str => x.length) ∘ fun g : Fm => T g.txt) = fun g => g.txt.length := funext fun g => T_len _
            rw [show (fun x : Str => x.length) = Str.length from rfl] at ec
            rw [ec]
            have s1 : (gs.map fun g => g.txt.length).sum ≤ 1000000 := by omega
            have s2 : gs.length * (32 :: (jL w2 ++ [32])).length ≤ 3900 * 5 := Nat.mul_le_mul (by omega) (by simp; omega)
            omega
          · show (fun x H' => _) _ _
            rw [jn]
            have q1 := q H2 s2
            have e5 : (Str.ofString "(").length = 1 := by decide
            have e6 : (Str.ofString ")").length = 1 := by decide
            refine ⟨_, rfl, by rw [lenApp]; omega, .str _, rfl, .inl ⟨T (joinT w2 gs), rfl, by rw [T_len]; omega, T (joinT w2 gs), rfl, by rw [lenApp, lenApp, T_len]; omega, _, rfl, by rw [lenApp, lenApp, lenApp, T_len]; omega, ?_⟩⟩
            have e9 : Str.empty ++ "(" ++ T (joinT w2 gs) ++ ")" = T (Fm.joint w2 gs).txt := by
              rw [empty_T, str_lbT, str_rbT]
              simp [T_app, Fm.txt]
            show Q (.str (Str.empty ++ "(" ++ T (joinT w2 gs) ++ ")")) H2
            rw [e9]; exact q1
theorem ok_text {k : Nat} (D : Pr P K mg) : FnOk P w K mg base (CX P w) (k + 46) D.formula_text.f D.formula_text.fd ["formula"] (spTextC D.BadFormula.C) := by
  have G_check_formula : FnOk P w K mg base (CX P w) (k + 5) D.check_formula.f D.check_formula.fd ["formula"] (spCheck D.BadFormula.C) := ok_check D
  have G_told_text : FnOk P w K mg base CX0 (k + 40) D.told_text.f D.told_text.fd ["formula"] (spText 40) := ok_told D k 40
  refine D.formula_text.F.okX sc_formula_text (fun vs H Q E h => ?_) (fun cdv A outer s H vs Q E hr h => ?_)
  · obtain ⟨v, d, rfl, _⟩ := h
    rfl
  · obtain ⟨v, d, rfl, ad, q1, q2⟩ := h
    refine ⟨_, (pss_cons (ps_expr (pe_call G_check_formula (hr.mono (by omega)) (by rfl) D.check_formula.g D.check_formula.F.kp D.check_formula.b .nil (passes_call (takes_of rfl rfl rfl rfl) (fun _ _ _ _ h => h)) (pa_cons (pv 0) pa_nil)))
      (pss_one (ps_ret (pe_call G_told_text (hr.mono (by omega)) (by rfl) D.told_text.g D.told_text.F.kp D.told_text.b .nil pass0 (pa_cons (pv 0) pa_nil))))), ?_⟩
    refine ⟨v, rfl, v, d, rfl, ad, fun e H1 s1 => ?_, q1⟩
    obtain ⟨f, rfl, hd, hc, hl, q⟩ := q2 e
    exact ⟨v, rfl, v, f, rfl, ad.dh.same s1, hd, hc, hl, fun H2 s2 => q H2 (s1.trans s2)⟩
end
end K7

set_option Elab.async false
set_option linter.all false
set_option maxRecDepth 100000
set_option maxHeartbeats 4000000
namespace K7
open PySem PySem.Spec PyProof.Rows L2 GX NdefX
/-! ### the reader, without a heap -/
structure Br where
  parts : List Fm := []
  dep : Nat := 0
  joint : Option Bool := none
  nots : Nat := 0
structure Rs where
  top : Br := {}
  rest : List Br := []
  edge : Option Bool := none
  wants : Bool := true
def wrapN : Nat → Fm → Fm
  | 0, f => f
  | n + 1, f => wrapN n (.not f)
theorem wrapN_succ (n : Nat) (f : Fm) : wrapN (n + 1) f = .not (wrapN n f) := by
  induction n generalizing f with
  | zero => rfl
  | succ n ih => rw [wrapN, ih, wrapN]
def Br.take (b : Br) (f : Fm) (d : Nat) : Br := { b with parts := b.parts ++ [wrapN b.nots f], dep := max b.dep (d + b.nots), nots := 0 }
def Br.whole (b : Br) : Fm × Nat := match b.joint with
  | none => (b.parts.headD (.bit false), b.dep)
  | some w => (.joint w b.parts, b.dep + 1)
def Rs.took (s : Rs) (f : Fm) (d : Nat) : Rs := { s with top := s.top.take f d, wants := false }
def stepB (w : List Nat) (s : Rs) : Option Rs :=
  if w = [40] then some { s with top := {}, rest := s.top :: s.rest }
  else if w = [110, 111, 116] then some { s with top := { s.top with nots := s.top.nots + 1 } }
  else if w = eL true then some { s with edge := some true }
  else if w = eL false then some { s with edge := some false }
  else if w = [48] then some (s.took (.bit false) 1)
  else if w = [49] then some (s.took (.bit true) 1)
  else if nameB (T w) = true then some (s.took (.name (T w)) 1)
  else none
def stepA (w : List Nat) (s : Rs) : Option Rs := match s.rest with
  | [] => none
  | b :: r =>
    if w = [41] then some (({ s with top := b, rest := r } : Rs).took s.top.whole.1 s.top.whole.2)
    else if w = jL false ∧ s.top.joint ≠ some true then some { s with top := { s.top with joint := some false }, wants := true }
    else if w = jL true ∧ s.top.joint ≠ some false then some { s with top := { s.top with joint := some true }, wants := true }
    else none
def step (w : List Nat) (s : Rs) : Option Rs := match s.edge with
  | some r => if nameB (T w) = true then some { s.took (.edge r (T w)) 1 with edge := none } else none
  | none => if s.wants = true then stepB w s else stepA w s
def runs : List (List Nat) → Rs → Option Rs
  | [], s => some s
  | w :: r, s => (step w s).bind (runs r)
theorem runs_app (a b : List (List Nat)) (s : Rs) : runs (a ++ b) s = (runs a s).bind (runs b) := by
  induction a generalizing s with
  | nil => rfl
  | cons w r ih =>
    show (step w s).bind (runs (r ++ b)) = ((step w s).bind (runs r)).bind (runs b)
    cases step w s with
    | none => rfl
    | some s1 => exact ih s1
/-- a reader that reads on as it began -/
structure Ready (s : Rs) : Prop where
  wants : s.wants = true
  edge : s.edge = none
/-- these words tell this formula, so deep -/
def Rd (ws : List (List Nat)) (f : Fm) (d : Nat) : Prop := ∀ s, Ready s → runs ws s = some (s.took f d)
theorem rd_one {w : List Nat} {f : Fm} {d : Nat} (h : ∀ s : Rs, Ready s → stepB w s = some (s.took f d)) : Rd [w] f d := fun s r => by
  show (step w s).bind (runs []) = _
  unfold step
  rw [r.edge]
  show (if s.wants = true then stepB w s else stepA w s).bind (runs []) = _
  rw [if_pos r.wants, h s r]; rfl
theorem rd_bit (b : Bool) : Rd [[if b then 49 else 48]] (.bit b) 1 := by
  refine rd_one fun s r => ?_
  unfold stepB
  cases b <;> rfl
/-- a name is no other word -/
theorem name_no {w : List Nat} (h : nameB (T w) = true) : w ≠ [40] ∧ w ≠ [110, 111, 116] ∧ w ≠ eL true ∧ w ≠ eL false ∧ w ≠ [48] ∧ w ≠ [49] ∧ w ≠ [41] := by
  refine ⟨?_, ?_, ?_, ?_, ?_, ?_, ?_⟩ <;> (rintro rfl; revert h; decide +kernel)
theorem rd_name {w : List Nat} (h : nameB (T w) = true) : Rd [w] (.name (T w)) 1 := by
  obtain ⟨n1, n2, n3, n4, n5, n6, _⟩ := name_no h
  refine rd_one fun s r => ?_
  unfold stepB
  rw [if_neg n1, if_neg n2, if_neg n3, if_neg n4, if_neg n5, if_neg n6, if_pos h]
theorem rd_edge {w : List Nat} (r : Bool) (h : nameB (T w) = true) : Rd [eL r, w] (.edge r (T w)) 1 := fun s rd => by
  have e1 : step (eL r) s = some { s with edge := some r } := by
    unfold step
    rw [rd.edge]
    show (if s.wants = true then stepB (eL r) s else _) = _
    rw [if_pos rd.wants]
    unfold stepB
    cases r <;> rfl
  show (step (eL r) s).bind _ = _
  rw [e1]
  show (step w { s with edge := some r }).bind (runs []) = _
  show (if nameB (T w) = true then _ else _ : Option Rs).bind (runs []) = _
  rw [if_pos h]
  show some _ = some _
  congr 1
  unfold Rs.took
  simp only [rd.edge]
theorem rd_not {ws : List (List Nat)} {f : Fm} {d : Nat} (h : Rd ws f d) : Rd ([110, 111, 116] :: ws) (.not f) (d + 1) := fun s r => by
  obtain ⟨tp, rr, ee, ww⟩ := s
  obtain ⟨hw, he⟩ := r
  simp only at hw he
  subst hw he
  have e1 : step [110, 111, 116] ⟨tp, rr, none, true⟩ = some ⟨{ tp with nots := tp.nots + 1 }, rr, none, true⟩ := by
    show stepB [110, 111, 116] _ = _
    unfold stepB
    rw [if_neg (by decide), if_pos rfl]
  show (step [110, 111, 116] _).bind _ = _
  rw [e1]
  show runs ws ⟨{ tp with nots := tp.nots + 1 }, rr, none, true⟩ = _
  rw [h _ ⟨rfl, rfl⟩]
  unfold Rs.took Br.take
  simp only [wrapN]
  rw [show d + (tp.nots + 1) = d + 1 + tp.nots by omega]
/-- reading a bracket's inside and its end -/
def inside (s : Rs) : Rs := { s with top := {}, rest := s.top :: s.rest }
theorem step_lb {s : Rs} (r : Ready s) : step [40] s = some (inside s) := by
  obtain ⟨tp, rr, ee, ww⟩ := s
  obtain ⟨hw, he⟩ := r
  simp only at hw he
  subst hw he
  rfl
theorem step_rb {tp b : Br} {rr : List Br} : step [41] ⟨tp, b :: rr, none, false⟩ = some ((⟨b, rr, none, false⟩ : Rs).took tp.whole.1 tp.whole.2) := rfl
theorem rd_br {ws : List (List Nat)} {f : Fm} {d : Nat} (h : Rd ws f d) : Rd ([40] :: (ws ++ [[41]])) f d := fun s r => by
  show (step [40] s).bind _ = _
  rw [step_lb r]
  show runs (ws ++ [[41]]) (inside s) = _
  rw [runs_app, h (inside s) ⟨r.wants, r.edge⟩]
  obtain ⟨tp, rr, ee, ww⟩ := s
  obtain ⟨hw, he⟩ := r
  simp only at hw he
  subst hw he
  rw [Option.bind_some]
  show (step [41] ⟨({} : Br).take f d, tp :: rr, none, false⟩).bind (runs []) = _
  rw [step_rb, Option.bind_some]
  simp [runs, Br.whole, wrapN, Rs.took, Br.take]
/-- the parts of a joint and the words between them -/
def jointW (w : Bool) : List (List (List Nat)) → List (List Nat)
  | [] => []
  | p :: r => jL w :: (p ++ jointW w r)
theorem step_joint (w : Bool) {tp b : Br} {rr : List Br} (hj : tp.joint = none ∨ tp.joint = some w) : step (jL w) ⟨tp, b :: rr, none, false⟩ = some ⟨{ tp with joint := some w }, b :: rr, none, true⟩ := by
  have e0 : step (jL w) ⟨tp, b :: rr, none, false⟩ = stepA (jL w) ⟨tp, b :: rr, none, false⟩ := rfl
  rw [e0]
  unfold stepA
  cases w with
  | false =>
    show (if jL false = [41] then _ else if jL false = jL false ∧ tp.joint ≠ some true then _ else _) = _
    rw [if_neg (by decide), if_pos ⟨rfl, by rcases hj with z | z <;> simp [z]⟩]
  | true =>
    show (if jL true = [41] then _ else if jL true = jL false ∧ tp.joint ≠ some true then _ else if jL true = jL true ∧ tp.joint ≠ some false then _ else _) = _
    rw [if_neg (by decide), if_neg (fun z => absurd z.1 (by decide)), if_pos ⟨rfl, by rcases hj with z | z <;> simp [z]⟩]
theorem joint_more (w : Bool) : ∀ (ps : List (List (List Nat))) (qs : List (Fm × Nat)), Paired (fun p q => Rd p q.1 q.2) ps qs → ∀ (tp b : Br) (rr : List Br), tp.nots = 0 → (tp.joint = none ∨ tp.joint = some w) → (ps ≠ [] ∨ tp.joint = some w) →
    runs (jointW w ps) ⟨tp, b :: rr, none, false⟩ = some ⟨{ tp with parts := tp.parts ++ qs.map (·.1), dep := (qs.map (·.2)).foldl max tp.dep, joint := some w }, b :: rr, none, false⟩
  | [], _, .nil, tp, b, rr, hn, hj, hp => by
    have j : tp.joint = some w := hp.elim (fun z => absurd rfl z) id
    obtain ⟨pp, dd, jj, nn⟩ := tp
    simp only at j
    subst j
    simp [jointW, runs]
  | p :: ps, q :: qs, .cons h t, tp, b, rr, hn, hj, hp => by
    show (step (jL w) _).bind _ = _
    rw [step_joint w hj]
    show runs (p ++ jointW w ps) _ = _
    rw [runs_app, h _ ⟨rfl, rfl⟩]
    show runs (jointW w ps) ⟨({ tp with joint := some w } : Br).take q.1 q.2, b :: rr, none, false⟩ = _
    rw [joint_more w ps qs t _ b rr rfl (.inr rfl) (.inr rfl)]
    unfold Br.take
    simp [hn, wrapN]
theorem foldl_max (ds : List Nat) : ∀ a b, ds.foldl max (max a b) = max a (ds.foldl max b) := by
  induction ds with
  | nil => intro a b; rfl
  | cons d r ih => intro a b; simp only [List.foldl_cons]; rw [Nat.max_assoc, ih]
theorem rd_joint (w : Bool) {p : List (List Nat)} {ps : List (List (List Nat))} {f : Fm} {d : Nat} {qs : List (Fm × Nat)} (h : Rd p f d) (hps : Paired (fun p q => Rd p q.1 q.2) ps qs) (ne : ps ≠ []) :
    Rd ([40] :: (p ++ jointW w ps ++ [[41]])) (.joint w (f :: qs.map (·.1))) ((qs.map (·.2)).foldl max d + 1) := fun s r => by
  show (step [40] s).bind _ = _
  rw [step_lb r]
  show runs (p ++ jointW w ps ++ [[41]]) (inside s) = _
  rw [runs_app, runs_app, h (inside s) ⟨r.wants, r.edge⟩]
  obtain ⟨tp, rr, ee, ww⟩ := s
  obtain ⟨hw, he⟩ := r
  simp only at hw he
  subst hw he
  show ((runs (jointW w ps) ⟨({} : Br).take f d, tp :: rr, none, false⟩).bind _) = _
  rw [joint_more w ps qs hps _ tp rr rfl (.inl rfl) (.inl ne)]
  rw [Option.bind_some]
  unfold runs
  rw [step_rb, Option.bind_some]
  simp [runs, Br.whole, wrapN, Rs.took, Br.take]
/-- what stands at the end -/
def final (s : Rs) : Option (Fm × Nat) := if s.wants = true ∨ s.rest ≠ [] ∨ False then none else some s.top.whole
def parse (ws : List (List Nat)) : Option (Fm × Nat) := (runs ws {}).bind final
theorem parse_rd {ws : List (List Nat)} {f : Fm} {d : Nat} (h : Rd ws f d) : parse ws = some (f, d) := by
  unfold parse
  rw [h {} ⟨rfl, rfl⟩]
  show final _ = _
  unfold final
  rw [if_neg (by simp [Rs.took])]
  unfold Rs.took Br.take Br.whole
  simp [wrapN]
end K7

set_option Elab.async false
set_option linter.all false
set_option maxRecDepth 100000
set_option maxHeartbeats 4000000
namespace K7
open PySem PySem.Spec PyProof.Rows L2 GX NdefX
/-! ### a text's words -/
def emit (cur : List Nat) : List (List Nat) := if cur = [] then [] else [cur]
def wd : List Nat → List Nat → List (List Nat)
  | cur, [] => emit cur
  | cur, c :: r => if c = 32 then emit cur ++ wd [] r else if c = 40 ∨ c = 41 then emit cur ++ [c] :: wd [] r else wd (cur ++ [c]) r
def isD (c : Nat) : Bool := decide (c = 32 ∨ c = 40 ∨ c = 41)
/-- b begins with a sign that parts words, or is empty -/
def Beg (b : List Nat) : Prop := b = [] ∨ ∃ c r, b = c :: r ∧ isD c = true
def End (a : List Nat) : Prop := ∃ p c, a = p ++ [c] ∧ isD c = true
theorem wd_beg {b : List Nat} (h : Beg b) (cur : List Nat) : wd cur b = emit cur ++ wd [] b := by
  rcases h with rfl | ⟨c, r, rfl, hc⟩
  · simp [wd, emit]
  · have hc : c = 32 ∨ c = 40 ∨ c = 41 := of_decide_eq_true hc
    rcases hc with rfl | rfl | rfl <;> simp [wd, emit]
theorem wd_app {b : List Nat} (h : Beg b) : ∀ (a cur : List Nat), wd cur (a ++ b) = wd cur a ++ wd [] b := by
  intro a
  induction a with
  | nil => intro cur; exact wd_beg h cur
  | cons c r ih =>
    intro cur
    simp only [List.cons_append, wd]
    split
    · rw [ih, List.append_assoc]
    · split
      · rw [ih]; simp
      · exact ih _
theorem wd_end {a : List Nat} (h : End a) : ∀ (b cur : List Nat), wd cur (a ++ b) = wd cur a ++ wd [] b := by
  obtain ⟨p, c, rfl, hc⟩ := h
  intro b
  have hc : c = 32 ∨ c = 40 ∨ c = 41 := of_decide_eq_true hc
  induction p with
  | nil =>
    intro cur
    rcases hc with rfl | rfl | rfl <;> simp [wd, emit]
  | cons d r ih =>
    intro cur
    simp only [List.cons_append, wd]
    split
    · rw [ih, List.append_assoc]
    · split
      · rw [ih]; simp
      · exact ih _
theorem wd_word : ∀ (w cur : List Nat), (∀ c ∈ w, isD c = false) → wd cur w = emit (cur ++ w)
  | [], cur, _ => by simp [wd]
  | c :: r, cur, h => by
    have hc : ¬ (c = 32 ∨ c = 40 ∨ c = 41) := of_decide_eq_false (h c List.mem_cons_self)
    rw [wd, if_neg (fun e => hc (.inl e)), if_neg (fun e => hc (.inr e)), wd_word r _ fun d m => h d (List.mem_cons_of_mem _ m)]
    simp
theorem wd_one {w : List Nat} (ne : w ≠ []) (h : ∀ c ∈ w, isD c = false) : wd [] w = [w] := by
  rw [wd_word w [] h]
  simp [emit, ne]
theorem wd_sp (n : Nat) (b : List Nat) : wd [] (List.replicate n 32 ++ b) = wd [] b := by
  induction n with
  | zero => rfl
  | succ n ih => rw [List.replicate_succ, List.cons_append, wd, if_pos rfl, ih]; rfl
theorem beg_sp {b : List Nat} (n : Nat) (h : 1 ≤ n ∨ Beg b) : Beg (List.replicate n 32 ++ b) := by
  cases n with
  | zero => rcases h with h | h
            · omega
            · exact h
  | succ n => exact .inr ⟨32, _, by rw [List.replicate_succ]; rfl, rfl⟩
/-! ### by replace and split -/
def splitL : List Nat → List Nat → List (List Nat)
  | cur, [] => [cur]
  | cur, c :: r => if c = 32 then cur :: splitL [] r else splitL (cur ++ [c]) r
theorem split_free : ∀ (p cur q : List Nat), 32 ∉ p → splitL cur (p ++ 32 :: q) = (cur ++ p) :: splitL [] q
  | [], cur, q, _ => by simp [splitL]
  | c :: r, cur, q, h => by
    have hc : c ≠ 32 := fun e => h (by rw [e]; exact List.mem_cons_self)
    rw [List.cons_append, splitL, if_neg hc, split_free r _ q fun m => h (List.mem_cons_of_mem _ m)]
    simp
theorem split_last : ∀ (p cur : List Nat), 32 ∉ p → splitL cur p = [cur ++ p]
  | [], cur, _ => by simp [splitL]
  | c :: r, cur, h => by
    have hc : c ≠ 32 := fun e => h (by rw [e]; exact List.mem_cons_self)
    rw [splitL, if_neg hc, split_last r _ fun m => h (List.mem_cons_of_mem _ m)]
    simp
theorem split_join : ∀ (ps : List Str), ps ≠ [] → (∀ p ∈ ps, 32 ∉ p.cps.toList) → splitL [] (Str.join ⟨#[32]⟩ ps).cps.toList = ps.map fun p => p.cps.toList
  | [], ne, _ => absurd rfl ne
  | [p], _, h => by
    show splitL [] p.cps.toList = _
    rw [split_last _ _ (h p List.mem_cons_self)]; rfl
  | p :: q :: r, _, h => by
    have e : (Str.join ⟨#[32]⟩ (p :: q :: r)).cps.toList = p.cps.toList ++ 32 :: (Str.join ⟨#[32]⟩ (q :: r)).cps.toList := by
      show (p ++ ⟨#[32]⟩ ++ Str.join ⟨#[32]⟩ (q :: r) : Str).cps.toList = _
      rw [Str.cps_append, Str.cps_append, Array.toList_append, Array.toList_append]
      simp
    rw [e, split_free _ _ _ (h p List.mem_cons_self), split_join (q :: r) (by simp) fun x m => h x (List.mem_cons_of_mem _ m)]
    rfl
theorem split_txt (x : Str) : (Txt.split x ⟨#[32]⟩).map (fun p => p.cps.toList) = splitL [] x.cps.toList := by
  have hj := StrLaws.join_split x ⟨#[32]⟩
  have hf := StrLaws.split_free x 32
  have ne : Txt.split x ⟨#[32]⟩ ≠ [] := fun e => by have := PyProof.Rows.split_pos x ⟨#[32]⟩; rw [e] at this; simp at this
  rw [← split_join _ ne fun p m => hf p m, hj]
theorem repl_one (c : Nat) (z : List Nat) : ∀ l : List Nat, StrLaws.replL [c] z l = l.flatMap fun x => if x = c then z else [x]
  | [] => StrLaws.replL_nil
  | x :: r => by
    rw [List.flatMap_cons]
    by_cases e : x = c
    · subst e
      rw [StrLaws.replL_hit (by simp) (by simp), if_pos rfl, ← repl_one x z r]
      rfl
    · rw [StrLaws.replL_miss (fun z => e (by simpa using z)), if_neg e, ← repl_one c z r]
      rfl
/-- a bracket stands for itself between blanks -/
def gap (c : Nat) : List Nat := if c = 40 then [32, 40, 32] else if c = 41 then [32, 41, 32] else [c]
theorem two_repl (l : List Nat) : StrLaws.replL [41] [32, 41, 32] (StrLaws.replL [40] [32, 40, 32] l) = l.flatMap gap := by
  rw [repl_one, repl_one, List.flatMap_assoc]
  refine congrArg (fun f => l.flatMap f) (funext fun c => ?_)
  unfold gap
  by_cases e : c = 40
  · subst e; rfl
  · rw [if_neg e, if_neg e]; simp
theorem words_split : ∀ (l cur : List Nat), (splitL cur (l.flatMap gap)).filter (fun w => decide (w ≠ [])) = wd cur l
  | [], cur => by
    show (splitL cur []).filter _ = emit cur
    unfold splitL emit
    by_cases e : cur = [] <;> simp [e]
  | c :: r, cur => by
    have fe : ∀ (q : List (List Nat)), (cur :: q).filter (fun w => decide (w ≠ [])) = emit cur ++ q.filter (fun w => decide (w ≠ [])) := fun q => by
      unfold emit
      by_cases e : cur = [] <;> simp [e]
    rw [List.flatMap_cons]
    unfold gap
    by_cases e1 : c = 40
    · subst e1
      show (splitL cur (32 :: 40 :: 32 :: r.flatMap gap)).filter _ = wd cur (40 :: r)
      rw [splitL, if_pos rfl, splitL, if_neg (by decide), List.nil_append, splitL, if_pos rfl, fe, List.filter_cons_of_pos (by simp), words_split r [], wd, if_neg (by decide), if_pos (.inl rfl)]
    · rw [if_neg e1]
      by_cases e2 : c = 41
      · subst e2
        show (splitL cur (32 :: 41 :: 32 :: r.flatMap gap)).filter _ = wd cur (41 :: r)
        rw [splitL, if_pos rfl, splitL, if_neg (by decide), List.nil_append, splitL, if_pos rfl, fe, List.filter_cons_of_pos (by simp), words_split r [], wd, if_neg (by decide), if_pos (.inr rfl)]
      · rw [if_neg e2]
        show (splitL cur (c :: r.flatMap gap)).filter _ = wd cur (c :: r)
        rw [splitL, wd]
        by_cases e3 : c = 32
        · subst e3
          rw [if_pos rfl, if_pos rfl, fe, words_split r []]
        · rw [if_neg e3, if_neg e3, if_neg (fun z => z.elim e1 e2), words_split r _]
/-! ### the exact text is read back -/
theorem name_free {x : Str} (h : nameB x = true) : x.cps.toList ≠ [] ∧ ∀ c ∈ x.cps.toList, isD c = false := by
  unfold nameB at h
  simp only [Bool.and_eq_true, decide_eq_true_eq, List.all_eq_true] at h
  obtain ⟨⟨⟨h1, _⟩, _⟩, _, h2⟩ := h
  refine ⟨fun e => ?_, fun c m => ?_⟩
  · have : x.cps.toList.length = 0 := by rw [e]; rfl
    rw [Array.length_toList] at this; omega
  · have := h2 c m
    refine decide_eq_false fun z => ?_
    rcases z with rfl | rfl | rfl <;> exact absurd this (by decide +kernel)
theorem wd_name {x : Str} (h : nameB x = true) : wd [] x.cps.toList = [x.cps.toList] := wd_one (name_free h).1 (name_free h).2
theorem beg_more (w : Bool) (r : List Fm) : Beg (moreT w r) := by
  cases r with
  | nil => exact .inl rfl
  | cons f r => exact .inr ⟨32, _, rfl, rfl⟩
theorem wd_kw {k : List Nat} (ne : k ≠ []) (h : ∀ c ∈ k, isD c = false) (b : List Nat) : wd [] (k ++ 32 :: b) = k :: wd [] b := by
  rw [wd_app (.inr ⟨32, b, rfl, rfl⟩), wd_one ne h, wd, if_pos rfl]; rfl
theorem jL_free (w : Bool) : jL w ≠ [] ∧ ∀ c ∈ jL w, isD c = false := by cases w <;> decide
theorem eL_free (w : Bool) : eL w ≠ [] ∧ ∀ c ∈ eL w, isD c = false := by cases w <;> decide
theorem wd_more (w : Bool) (f : Fm) (r : List Fm) : wd [] (moreT w (f :: r)) = jL w :: (wd [] f.txt ++ wd [] (moreT w r)) := by
  rw [moreT, List.cons_append, wd, if_pos rfl, List.append_assoc]
  show emit [] ++ wd [] (jL w ++ 32 :: (f.txt ++ moreT w r)) = _
  rw [wd_kw (jL_free w).1 (jL_free w).2, wd_app (beg_more w r)]; rfl
theorem wd_mores (w : Bool) (r : List Fm) : wd [] (moreT w r) = jointW w (r.map fun f => wd [] f.txt) := by
  induction r with
  | nil => simp [moreT, wd, emit, jointW]
  | cons f r ih => rw [wd_more, ih, List.map_cons, jointW]
theorem max_dep (r : List Fm) : ∀ d : Nat, (r.map Fm.dep).foldl max d = max d (depL r) := by
  induction r with
  | nil => intro d; simp [depL]
  | cons f r ih => intro d; rw [List.map_cons, List.foldl_cons, ih, depL, Nat.max_assoc]
mutual
theorem txt_rd : ∀ f : Fm, f.ok = true → Rd (wd [] f.txt) f f.dep
  | .bit b, _ => by
    have e : wd [] (Fm.bit b).txt = [[if b then 49 else 48]] := by cases b <;> rfl
    rw [e]
    exact rd_bit b
  | .name x, h => by
    have h : nameB x = true := h
    simp only [Fm.txt]
    rw [wd_name h]
    have := rd_name (w := x.cps.toList) (by rw [T_of]; exact h)
    rw [T_of] at this
    exact this
  | .edge r x, h => by
    have h : nameB x = true := h
    simp only [Fm.txt]
    rw [wd_kw (eL_free r).1 (eL_free r).2, wd_name h]
    have := rd_edge (w := x.cps.toList) r (by rw [T_of]; exact h)
    rw [T_of] at this
    exact this
  | .not f, h => by
    have h : f.ok = true := h
    simp only [Fm.txt, Fm.dep]
    rw [show notL ++ f.txt = [110, 111, 116] ++ 32 :: f.txt from rfl, wd_kw (by decide) (by decide)]
    exact rd_not (txt_rd f h)
  | .joint w fs, h => by
    have h2 : 2 ≤ fs.length ∧ okL fs = true := by simpa [Fm.ok] using h
    match fs, h2 with
    | f :: r, h2 =>
      have ok2 : f.ok = true ∧ okL r = true := by simpa [okL] using h2.2
      have pr := txts_rd r ok2.2
      simp only [Fm.txt, Fm.dep, joinT]
      rw [wd, if_neg (by decide), if_pos (.inl rfl), wd_app (.inr ⟨41, [], rfl, rfl⟩), wd_app (beg_more w r), wd_mores]
      have e : (r.map fun f => (f, f.dep)).map (·.1) = r := by rw [List.map_map]; exact List.map_id r
      have e2 : (r.map fun f => (f, f.dep)).map (·.2) = r.map Fm.dep := by rw [List.map_map]; rfl
      have := rd_joint w (txt_rd f ok2.1) pr (by
        intro z
        have : r = [] := by simpa using z
        subst this
        simp at h2)
      rw [e, e2, max_dep] at this
      exact this
theorem txts_rd : ∀ r : List Fm, okL r = true → Paired (fun p (q : Fm × Nat) => Rd p q.1 q.2) (r.map fun f => wd [] f.txt) (r.map fun f => (f, f.dep))
  | [], _ => .nil
  | f :: r, h => by
    have h2 : f.ok = true ∧ okL r = true := by simpa [okL] using h
    exact .cons (txt_rd f h2.1) (txts_rd r h2.2)
end
end K7

set_option Elab.async false
set_option linter.all false
set_option maxRecDepth 100000
set_option maxHeartbeats 4000000
namespace K7
open PySem PySem.Spec PyProof.Rows L2 GX NdefX
theorem bfn_parts_depth : ¬ (("parts" : Str) = "depth") := by decide +kernel
theorem bfn_parts_joint : ¬ (("parts" : Str) = "joint") := by decide +kernel
theorem bfn_parts_nots : ¬ (("parts" : Str) = "nots") := by decide +kernel
theorem bfn_depth_joint : ¬ (("depth" : Str) = "joint") := by decide +kernel
theorem bfn_depth_nots : ¬ (("depth" : Str) = "nots") := by decide +kernel
theorem bfn_joint_nots : ¬ (("joint" : Str) = "nots") := by decide +kernel
def bf (v0 v1 v2 v3 : V) : List (Str × V) := (putF "nots" v3 (putF "joint" v2 (putF "depth" v1 (putF "parts" v0 []))))
theorem bf_eq (v0 v1 v2 v3 : V) : bf v0 v1 v2 v3 = ([("parts", v0), ("depth", v1), ("joint", v2), ("nots", v3)] : List (Str × V)) := by
  simp [bf, putF, bfn_parts_depth, bfn_parts_joint, bfn_parts_nots, bfn_depth_joint, bfn_depth_nots, bfn_joint_nots]
theorem bf_parts (v0 v1 v2 v3 : V) : (bf v0 v1 v2 v3).lookup ("parts" : Str) = some v0 := by
  unfold bf
  rw [lookup_putF, if_neg bfn_parts_nots, lookup_putF, if_neg bfn_parts_joint, lookup_putF, if_neg bfn_parts_depth, lookup_putF, if_pos rfl]
theorem bf_depth (v0 v1 v2 v3 : V) : (bf v0 v1 v2 v3).lookup ("depth" : Str) = some v1 := by
  unfold bf
  rw [lookup_putF, if_neg bfn_depth_nots, lookup_putF, if_neg bfn_depth_joint, lookup_putF, if_pos rfl]
theorem bf_joint (v0 v1 v2 v3 : V) : (bf v0 v1 v2 v3).lookup ("joint" : Str) = some v2 := by
  unfold bf
  rw [lookup_putF, if_neg bfn_joint_nots, lookup_putF, if_pos rfl]
theorem bf_nots (v0 v1 v2 v3 : V) : (bf v0 v1 v2 v3).lookup ("nots" : Str) = some v3 := by
  unfold bf
  rw [lookup_putF, if_pos rfl]
theorem bf_no (v0 v1 v2 v3 : V) {m : Str} (h0 : ¬ m = "parts") (h1 : ¬ m = "depth") (h2 : ¬ m = "joint") (h3 : ¬ m = "nots") : (bf v0 v1 v2 v3).lookup m = none := by
  unfold bf
  rw [lookup_putF, if_neg h3, lookup_putF, if_neg h2, lookup_putF, if_neg h1, lookup_putF, if_neg h0]
  rfl
theorem bf_put_parts (v0 v1 v2 v3 x : V) : putF "parts" x (bf v0 v1 v2 v3) = bf x v1 v2 v3 := by
  rw [bf_eq, bf_eq]
  simp [putF]
theorem bf_put_depth (v0 v1 v2 v3 x : V) : putF "depth" x (bf v0 v1 v2 v3) = bf v0 x v2 v3 := by
  rw [bf_eq, bf_eq]
  simp [putF, bfn_parts_depth]
theorem bf_put_joint (v0 v1 v2 v3 x : V) : putF "joint" x (bf v0 v1 v2 v3) = bf v0 v1 x v3 := by
  rw [bf_eq, bf_eq]
  simp [putF, bfn_parts_joint, bfn_depth_joint]
theorem bf_put_nots (v0 v1 v2 v3 x : V) : putF "nots" x (bf v0 v1 v2 v3) = bf v0 v1 v2 x := by
  rw [bf_eq, bf_eq]
  simp [putF, bfn_parts_nots, bfn_depth_nots, bfn_joint_nots]
theorem bf_len (v0 v1 v2 v3 : V) : (bf v0 v1 v2 v3).length < 1000 := by rw [bf_eq]; show 4 < 1000; decide

theorem rfn_brackets_edge : ¬ (("brackets" : Str) = "edge") := by decide +kernel
theorem rfn_brackets_wants : ¬ (("brackets" : Str) = "wants") := by decide +kernel
theorem rfn_edge_wants : ¬ (("edge" : Str) = "wants") := by decide +kernel
def rf (v0 v1 v2 : V) : List (Str × V) := (putF "wants" v2 (putF "edge" v1 (putF "brackets" v0 [])))
theorem rf_eq (v0 v1 v2 : V) : rf v0 v1 v2 = ([("brackets", v0), ("edge", v1), ("wants", v2)] : List (Str × V)) := by
  simp [rf, putF, rfn_brackets_edge, rfn_brackets_wants, rfn_edge_wants]
theorem rf_brackets (v0 v1 v2 : V) : (rf v0 v1 v2).lookup ("brackets" : Str) = some v0 := by
  unfold rf
  rw [lookup_putF, if_neg rfn_brackets_wants, lookup_putF, if_neg rfn_brackets_edge, lookup_putF, if_pos rfl]
theorem rf_edge (v0 v1 v2 : V) : (rf v0 v1 v2).lookup ("edge" : Str) = some v1 := by
  unfold rf
  rw [lookup_putF, if_neg rfn_edge_wants, lookup_putF, if_pos rfl]
theorem rf_wants (v0 v1 v2 : V) : (rf v0 v1 v2).lookup ("wants" : Str) = some v2 := by
  unfold rf
  rw [lookup_putF, if_pos rfl]
theorem rf_no (v0 v1 v2 : V) {m : Str} (h0 : ¬ m = "brackets") (h1 : ¬ m = "edge") (h2 : ¬ m = "wants") : (rf v0 v1 v2).lookup m = none := by
  unfold rf
  rw [lookup_putF, if_neg h2, lookup_putF, if_neg h1, lookup_putF, if_neg h0]
  rfl
theorem rf_put_brackets (v0 v1 v2 x : V) : putF "brackets" x (rf v0 v1 v2) = rf x v1 v2 := by
  rw [rf_eq, rf_eq]
  simp [putF]
theorem rf_put_edge (v0 v1 v2 x : V) : putF "edge" x (rf v0 v1 v2) = rf v0 x v2 := by
  rw [rf_eq, rf_eq]
  simp [putF, rfn_brackets_edge]
theorem rf_put_wants (v0 v1 v2 x : V) : putF "wants" x (rf v0 v1 v2) = rf v0 v1 x := by
  rw [rf_eq, rf_eq]
  simp [putF, rfn_brackets_wants, rfn_edge_wants]
theorem rf_len (v0 v1 v2 : V) : (rf v0 v1 v2).length < 1000 := by rw [rf_eq]; show 3 < 1000; decide

end K7

set_option Elab.async false
set_option linter.all false
set_option maxRecDepth 100000
set_option maxHeartbeats 4000000
namespace K7
open PySem PySem.Spec PyProof.Rows L2 GX NdefX
/-! ### brackets -/
def jS : Option Bool → Str
  | none => ""
  | some w => jK w
/-- the bracket at b, its list of parts at p -/
def BrAt (C : Addr) (H : Hp) (b p : Addr) (x : Br) : Prop := ∃ dx vs, H b = some (.ins C dx (bf (.ref p) (.int (x.dep : Nat)) (.str (jS x.joint)) (.int (x.nots : Nat)))) ∧ H p = some (.lst vs) ∧ DhAll H vs (x.parts.map Fm.data)
/-- all but b and p stand -/
def But (b p : Addr) (H H1 : Hp) : Prop := ∀ a o, a ≠ b → a ≠ p → H a = some o → H1 a = some o
/-- the tuples stand -/
def TupS (H H1 : Hp) : Prop := ∀ a xs, H a = some (.tup xs) → H1 a = some (.tup xs)
theorem Same.tup {H H1 : Hp} (s : Same H H1) : TupS H H1 := fun a xs e => s a _ e
mutual
theorem fm_tup {H H1 : Hp} (s : TupS H H1) : ∀ (f : Fm) (v : V), Dh H v f.data → Dh H1 v f.data
  | .bit b, v, h => by cases h with | tup e hx => cases hx with | cons h1 t => cases h1; cases t with | cons h2 t2 => cases h2; cases t2; exact .tup (s _ _ e) (.cons (.str _) (.cons (.int _) .nil))
  | .name x, v, h => by cases h with | tup e hx => cases hx with | cons h1 t => cases h1; cases t with | cons h2 t2 => cases h2; cases t2; exact .tup (s _ _ e) (.cons (.str _) (.cons (.str _) .nil))
  | .edge r x, v, h => by cases h with | tup e hx => cases hx with | cons h1 t => cases h1; cases t with | cons h2 t2 => cases h2; cases t2; exact .tup (s _ _ e) (.cons (.str _) (.cons (.str _) .nil))
  | .not f, v, h => by cases h with | tup e hx => cases hx with | cons h1 t => cases h1; cases t with | cons h2 t2 => cases t2; exact .tup (s _ _ e) (.cons (.str _) (.cons (fm_tup s f _ h2) .nil))
  | .joint w fs, v, h => by cases h with | tup e hx => cases hx with | cons h1 t => cases h1; cases t with | cons h2 t2 => cases t2; cases h2 with | tup e2 h3 => exact .tup (s _ _ e) (.cons (.str _) (.cons (.tup (s _ _ e2) (fms_tup s fs _ h3)) .nil))
theorem fms_tup {H H1 : Hp} (s : TupS H H1) : ∀ (fs : List Fm) (vs : List V), DhAll H vs (dataL fs) → DhAll H1 vs (dataL fs)
  | [], _, .nil => .nil
  | f :: r, _, .cons h t => .cons (fm_tup s f _ h) (fms_tup s r _ t)
end
theorem parts_tup {H H1 : Hp} (s : TupS H H1) {fs : List Fm} {vs : List V} (h : DhAll H vs (fs.map Fm.data)) : DhAll H1 vs (fs.map Fm.data) := by
  rw [← dataL_map] at h ⊢
  exact fms_tup s fs vs h
def spBrInit (C : Addr) : Sp := fun vs H Q _ => ∃ (b dx : Addr), vs = [.ref b] ∧ H b = some (.ins C dx []) ∧ ∀ H1 p, (∀ a o, a ≠ b → H a = some o → H1 a = some o) → H p = none → BrAt C H1 b p {} → Q .non H1
def spTake (C : Addr) : Sp := fun vs H Q _ => ∃ (b p : Addr) (x : Br) (v : V) (f : Fm) (d : Nat), vs = [.ref b, v, .int (d : Nat)] ∧ BrAt C H b p x ∧ Dh H v f.data ∧ x.parts.length ≤ 1000000 ∧ x.nots ≤ 1000000 ∧ ∀ H1, But b p H H1 → BrAt C H1 b p (x.take f d) → Q .non H1
def spWhole2 (C : Addr) : Sp := fun vs H Q _ => ∃ (b p : Addr) (x : Br), vs = [.ref b] ∧ BrAt C H b p x ∧ x.parts ≠ [] ∧ ∀ a v H1, Same H H1 → H1 a = some (.tup [v, .int (x.whole.2 : Nat)]) → Dh H1 v x.whole.1.data → Q (.ref a) H1
section
variable {P : Program} {w : World} {K : PySem.W.Frag} {mg : Str → Option Value} {base : Heap}
theorem ok_br_init {k : Nat} (D : Pr P K mg) : FnOk P w K mg base CX0 (k + 1) D.Bracket.f D.Bracket.fd ["self"] (spBrInit D.Bracket.C) := by
  refine D.Bracket.F.ok sc_Bracket_init (fun vs H Q E h => ?_) (fun cdv A outer s H vs Q E hr h => ?_)
  · obtain ⟨c, dx, rfl, _⟩ := h
    rfl
  · obtain ⟨b, dx, rfl, hb, q⟩ := h
    refine ⟨_, (pss_cons (ps_fld (pv 0) (pe_lst pa_nil) rfl)
      (pss_cons (ps_fld (pv 0) pe_int rfl)
      (pss_cons (ps_fld (pv 0) pe_str rfl)
      (pss_one (ps_fld (pv 0) pe_int rfl))))), ?_⟩
    refine ⟨by show 0 ≤ sizeLine; decide, fun p np => ?_⟩
    have npb : b ≠ p := fun z => by rw [← z, hb] at np; cases np
    refine ⟨_, rfl, b, D.Bracket.C, dx, [], rfl, by rw [upd_ne npb]; exact hb, D.Bracket.cl, D.Bracket.nf _ (by simp), by show 0 < 1000; decide, ?_⟩
    refine ⟨_, rfl, b, D.Bracket.C, dx, _, rfl, upd_same, D.Bracket.cl, D.Bracket.nf _ (by simp), by show 1 < 1000; decide, ?_⟩
    refine ⟨_, rfl, b, D.Bracket.C, dx, _, rfl, upd_same, D.Bracket.cl, D.Bracket.nf _ (by simp), by show 2 < 1000; decide, ?_⟩
    refine ⟨_, rfl, b, D.Bracket.C, dx, _, rfl, upd_same, D.Bracket.cl, D.Bracket.nf _ (by simp), by show 3 < 1000; decide, ?_⟩
    refine q _ p (fun a o na e => ?_) np ⟨dx, [], upd_same, ?_, .nil⟩
    · rw [upd_ne na, upd_ne na, upd_ne na, upd_ne na, upd_ne (ne_of_none e np)]; exact e
    · rw [upd_ne (Ne.symm npb), upd_ne (Ne.symm npb), upd_ne (Ne.symm npb), upd_ne (Ne.symm npb), upd_same]
theorem ok_whole2 {k : Nat} (D : Pr P K mg) : FnOk P w K mg base CX0 (k + 1) D.Bracket_whole.f D.Bracket_whole.fd ["self"] (spWhole2 D.Bracket.C) := by
  refine D.Bracket_whole.F.ok sc_Bracket_whole (fun vs H Q E h => ?_) (fun cdv A outer s H vs Q E hr h => ?_)
  · obtain ⟨b, p, x, rfl, _⟩ := h
    rfl
  · obtain ⟨b, p, x, rfl, ⟨dx, vs, hb, hp, hd⟩, ne, q⟩ := h
    have nP : NoAttr K D.Bracket.C "parts" := D.Bracket.nf _ (by simp)
    have nD : NoAttr K D.Bracket.C "depth" := D.Bracket.nf _ (by simp)
    have nJ : NoAttr K D.Bracket.C "joint" := D.Bracket.nf _ (by simp)
    refine ⟨_, (pss_cons (ps_if (pt_cmpR op_eq (pe_fld (pv 0) rfl) pe_str (nomark _)) (pss_one (ps_ret (pe_tup (pa_cons (pe_ix (r := rIxL K) ix_list (pe_fld (pv 0) rfl) pe_int (fun _ _ => rfl)) (pa_cons (pe_fld (pv 0) rfl) pa_nil))))) pss_nil)
      (pss_one (ps_ret (pe_tup (pa_cons (pe_tup (pa_cons (pe_fld (pv 0) rfl) (pa_cons (pe_callTy call_tuple_of (by rfl) D.B.tuple (by decide +kernel) (pa_cons (pe_fld (pv 0) rfl) pa_nil)) pa_nil))) (pa_cons (pe_op (r := rAddN) op_AddN (pe_fld (pv 0) rfl) pe_int) pa_nil)))))), ?_⟩
    refine ⟨_, rfl, b, D.Bracket.C, dx, _, _, rfl, hb, D.Bracket.cl, nJ, bf_joint _ _ _ _, rfl, _, rfl, ?_⟩
    rw [strEq]
    obtain ⟨pp, dd, jj, nn⟩ := x
    cases jj with
    | none =>
      rw [decide_eq_true (by rfl)]
      cases pp with
      | nil => exact absurd rfl ne
      | cons f r =>
        cases hd with
        | cons h1 h2 =>
          rename_i v vs
          refine iteT ⟨_, rfl, b, D.Bracket.C, dx, _, _, rfl, hb, D.Bracket.cl, nP, bf_parts _ _ _ _, p, v :: vs, 0, v, rfl, rfl, sqL hp, atI_nat (j := 0) rfl, _, rfl, b, D.Bracket.C, dx, _, _, rfl, hb, D.Bracket.cl, nD, bf_depth _ _ _ _, by show 2 ≤ sizeLine; decide, fun t nt => ?_⟩
          have st := same_upd nt (o := .tup [v, .int (dd : Nat)])
          exact q t v _ st upd_same (h1.same st)
    | some w =>
      refine iteFq (decide_eq_false (show ¬ jK w = Str.ofString "" by cases w <;> decide +kernel)) ⟨_, rfl, b, D.Bracket.C, dx, _, _, rfl, hb, D.Bracket.cl, nJ, bf_joint _ _ _ _, _, rfl, b, D.Bracket.C, dx, _, _, rfl, hb, D.Bracket.cl, nP, bf_parts _ _ _ _, p, vs, rfl, .inl ⟨sqL hp, fun t nt => ?_⟩⟩
      have s1 := same_upd nt (o := .tup vs)
      have et : upd H t (.tup vs) t = some (.tup vs) := upd_same
      generalize upd H t (.tup vs) = H1 at s1 et
      refine ⟨by show 2 ≤ sizeLine; decide, fun u nu => ?_⟩
      have su := same_upd nu (o := .tup [.str (jK w), .ref t])
      have eu : upd H1 u (.tup [.str (jK w), .ref t]) u = some (.tup [.str (jK w), .ref t]) := upd_same
      have eb := su _ _ (s1 _ _ hb)
      have et2 := su _ _ et
      refine ⟨_, rfl, b, D.Bracket.C, dx, _, _, rfl, eb, D.Bracket.cl, nD, bf_depth _ _ _ _, dd, 1, rfl, rfl, by show 2 ≤ sizeLine; decide, fun r nr => ?_⟩
      have sr := same_upd nr (o := .tup [.ref u, .int ((dd + 1 : Nat) : Int)])
      refine q r (.ref u) _ ((s1.trans su).trans sr) upd_same (.tup (sr _ _ eu) (.cons (.str _) (.cons (.tup (sr _ _ et2) ?_) .nil)))
      rw [dataL_map]
      exact parts_tup (Same.tup ((s1.trans su).trans sr)) hd
theorem wrap_dh {H H1 : Hp} {v x : V} {f : Fm} {a : Addr} (e : H1 a = some (.tup [.str "not", v])) (h : Dh H1 v f.data) : Dh H1 (.ref a) (Fm.not f).data := .tup e (.cons (.str _) (.cons h .nil))
theorem ok_take {k : Nat} (D : Pr P K mg) : FnOk P w K mg base CX0 (k + 1) D.Bracket_take.f D.Bracket_take.fd ["self", "formula", "depth"] (spTake D.Bracket.C) := by
  refine D.Bracket_take.F.ok sc_Bracket_take (fun vs H Q E h => ?_) (fun cdv A outer s H vs Q E hr h => ?_)
  · obtain ⟨b, p, x, v, f, d, rfl, _⟩ := h
    rfl
  · obtain ⟨b, p, x, v, f, d, rfl, ⟨dx, vs, hb, hp, hd⟩, hf, hl, hn, q⟩ := h
    have nP : NoAttr K D.Bracket.C "parts" := D.Bracket.nf _ (by simp)
    have nD : NoAttr K D.Bracket.C "depth" := D.Bracket.nf _ (by simp)
    have nN : NoAttr K D.Bracket.C "nots" := D.Bracket.nf _ (by simp)
    have npb : p ≠ b := fun z => by rw [z, hb] at hp; cases hp
    refine ⟨_, (pss_cons (ps_for PassesOwn.never rfl (pi_range1 (by rfl) D.B.range (pa_cons (pe_fld (pv 0) rfl) pa_nil)) (pg_name (i := 3) sc_Bracket_take.nd rfl (.inl rfl)) (pss_one (ps_set (i := 1) sc_Bracket_take.nd rfl (.inl rfl) (pe_tup (pa_cons pe_str (pa_cons (pv 1) pa_nil))))))
      (pss_cons (ps_fld (pv 0) (pe_callB (r := rMax2N) (call_max2N rfl) (by rfl) D.B.max (by decide +kernel) (pa_cons (pe_fld (pv 0) rfl) (pa_cons (pe_op (r := rAddN) op_AddN (pv 2) (pe_fld (pv 0) rfl)) pa_nil))) rfl)
      (pss_cons (ps_fld (pv 0) pe_int rfl)
      (pss_one (ps_expr (pe_bm PySem.F.plainAttrs_list PySem.F.slot_list_append PySem.F.type_list_append mt_append (pe_fld (pv 0) rfl) (pa_cons (pv 1) pa_nil))))))), ?_⟩
    refine ⟨_, rfl, b, D.Bracket.C, dx, _, _, rfl, hb, D.Bracket.cl, nN, bf_nots _ _ _ _, (x.nots : Nat), rfl, by omega, by omega, ?_⟩
    refine forRg (n := x.nots) (D := { nx := _, rt := Q }) (fun i σ H1 => ∃ u c3, σ = [some (.ref b), some u, some (.int (d : Nat)), c3] ∧ Same H H1 ∧ Dh H1 u (wrapN i f).data) ⟨v, none, rfl, Same.refl _, hf⟩ ?_ ?_
    · rintro i σ H1 hi ⟨u, c3, rfl, s1, hu⟩
      refine ⟨u, rfl, by show 2 ≤ sizeLine; decide, fun t nt => ?_⟩
      have st := same_upd nt (o := .tup [.str "not", u])
      refine ⟨.ref t, _, rfl, s1.trans st, ?_⟩
      rw [wrapN_succ]
      exact .tup upd_same (.cons (.str _) (.cons (hu.same st) .nil))
    · rintro σ H1 ⟨u, c3, rfl, s1, hu⟩
      have hb1 := s1 _ _ hb
      have hp1 := s1 _ _ hp
      refine ⟨_, rfl, b, D.Bracket.C, dx, _, _, rfl, hb1, D.Bracket.cl, nD, bf_depth _ _ _ _, _, rfl, _, rfl, b, D.Bracket.C, dx, _, _, rfl, hb1, D.Bracket.cl, nN, bf_nots _ _ _ _, d, x.nots, rfl, rfl, x.dep, d + x.nots, rfl, ?_⟩
      refine ⟨_, rfl, b, D.Bracket.C, dx, _, rfl, hb1, D.Bracket.cl, nD, bf_len _ _ _ _, ?_⟩
      rw [bf_put_depth]
      refine ⟨_, rfl, b, D.Bracket.C, dx, _, rfl, upd_same, D.Bracket.cl, nN, bf_len _ _ _ _, ?_⟩
      rw [bf_put_nots]
      refine ⟨_, rfl, b, D.Bracket.C, dx, _, _, rfl, upd_same, D.Bracket.cl, nP, bf_parts _ _ _ _, ?_⟩
      have ep : ∀ o1 o2, upd (upd H1 b o1) b o2 p = some (.lst vs) := fun o1 o2 => by rw [upd_ne npb, upd_ne npb]; exact hp1
      refine ⟨.inl ⟨rfl, vs, sqL (ep _ _)⟩, u, rfl, p, vs, u, rfl, rfl, ep _ _, ?_, ?_⟩
      · have := hd.length
        rw [List.length_map] at this
        rw [sizeLine_eq]; omega
      · refine q _ (fun a o na np e => by rw [upd_ne np, upd_ne na, upd_ne na]; exact s1 _ _ e) ⟨dx, vs ++ [u], ?_, upd_same, ?_⟩
        · rw [upd_ne (Ne.symm npb), upd_same]; rfl
        · have ts : TupS H1 (upd (upd (upd H1 b (.ins D.Bracket.C dx (bf (.ref p) (.int ((max x.dep (d + x.nots) : Nat) : Int)) (.str (jS x.joint)) (.int (x.nots : Nat))))) b (.ins D.Bracket.C dx (bf (.ref p) (.int ((max x.dep (d + x.nots) : Nat) : Int)) (.str (jS x.joint)) (.int 0)))) p (.lst (vs ++ [u]))) := fun a xs e => by
            have n1 : a ≠ p := fun z => by rw [z, hp1] at e; cases e
            have n2 : a ≠ b := fun z => by rw [z, hb1] at e; cases e
            rw [upd_ne n1, upd_ne n2, upd_ne n2]; exact e
          show DhAll _ (vs ++ [u]) ((x.parts ++ [wrapN x.nots f]).map Fm.data)
          rw [List.map_append]
          exact DhAll.app _ _ _ _ (parts_tup ts (parts_tup (Same.tup s1) hd)) (.cons (fm_tup ts _ _ hu) .nil)
end
end K7

set_option Elab.async false
set_option linter.all false
set_option maxRecDepth 100000
set_option maxHeartbeats 4000000
namespace K7
open PySem PySem.Spec PyProof.Rows L2 GX NdefX
/-! ### the reader on the heap -/
def eS : Option Bool → Str
  | none => ""
  | some r => eK r
def Rs.stk (s : Rs) : List Br := s.rest.reverse ++ [s.top]
structure RdS (Cr Cb : Addr) (H0 H : Hp) (R L dx : Addr) (bs : List (Addr × Addr)) (s : Rs) : Prop where
  same : Same H0 H
  nR : H0 R = none
  nL : H0 L = none
  ob : H R = some (.ins Cr dx (rf (.ref L) (.str (eS s.edge)) (.bl s.wants)))
  ls : H L = some (.lst (bs.map fun q => .ref q.1))
  br : Paired (fun q x => (H0 q.1 = none ∧ H0 q.2 = none) ∧ BrAt Cb H q.1 q.2 x) bs s.stk
  n1 : (R :: bs.map (·.1)).Nodup
  n2 : (L :: bs.map (·.2)).Nodup
theorem BrAt.keep {C : Addr} {H H1 : Hp} {b p : Addr} {x : Br} (h : BrAt C H b p x) (e1 : ∀ o, H b = some o → H1 b = some o) (e2 : ∀ o, H p = some o → H1 p = some o) (t : TupS H H1) : BrAt C H1 b p x := by
  obtain ⟨dx, vs, hb, hp, hd⟩ := h
  exact ⟨dx, vs, e1 _ hb, e2 _ hp, parts_tup t hd⟩
theorem paired_mem {α β : Type} {F : α → β → Prop} {xs : List α} {ys : List β} (p : Paired F xs ys) {x : α} (m : x ∈ xs) : ∃ y, F x y := by
  induction p with
  | nil => simp at m
  | cons h t ih =>
    rcases List.mem_cons.mp m with e | e
    · subst e; exact ⟨_, h⟩
    · exact ih e
theorem paired_impm {α β : Type} {F G : α → β → Prop} {xs : List α} {ys : List β} (p : Paired F xs ys) (h : ∀ x ∈ xs, ∀ y, F x y → G x y) : Paired G xs ys := by
  induction p with
  | nil => exact .nil
  | cons a t ih => exact .cons (h _ List.mem_cons_self _ a) (ih fun x m => h x (List.mem_cons_of_mem _ m))
theorem paired_snocs {α β : Type} {F : α → β → Prop} {xs : List α} {ys : List β} {y : β} (p : Paired F xs (ys ++ [y])) : ∃ xs' x, xs = xs' ++ [x] ∧ Paired F xs' ys ∧ F x y := by
  induction ys generalizing xs with
  | nil =>
    cases p with
    | cons h t => cases t; exact ⟨[], _, rfl, .nil, h⟩
  | cons z ys ih =>
    cases p with
    | cons h t =>
      obtain ⟨xs', x, rfl, p', hx⟩ := ih t
      exact ⟨_ :: xs', x, rfl, .cons h p', hx⟩
section
variable {Cr Cb : Addr} {H0 H H1 : Hp} {R L dx : Addr} {bs : List (Addr × Addr)} {s : Rs}
theorem RdS.grow (h : RdS Cr Cb H0 H R L dx bs s) (g : Same H H1) : RdS Cr Cb H0 H1 R L dx bs s :=
  ⟨h.same.trans g, h.nR, h.nL, g _ _ h.ob, g _ _ h.ls, paired_imp (fun q x ⟨n, b⟩ => ⟨n, b.keep (fun o e => g _ _ e) (fun o e => g _ _ e) (Same.tup g)⟩) h.br, h.n1, h.n2⟩
theorem RdS.bk (h : RdS Cr Cb H0 H R L dx bs s) {q : Addr × Addr} (m : q ∈ bs) : ∃ dy fs vs, H q.1 = some (.ins Cb dy fs) ∧ H q.2 = some (.lst vs) := by
  obtain ⟨x, _, dy, vs, e1, e2, _⟩ := paired_mem h.br m
  exact ⟨dy, _, vs, e1, e2⟩
/-- the reader's own fields are set -/
theorem RdS.setF (h : RdS Cr Cb H0 H R L dx bs s) (e : Option Bool) (w : Bool) : RdS Cr Cb H0 (upd H R (.ins Cr dx (rf (.ref L) (.str (eS e)) (.bl w)))) R L dx bs { s with edge := e, wants := w } := by
  have nLR : L ≠ R := fun z => by have := h.ls; rw [z, h.ob] at this; cases this
  have n1 := List.nodup_cons.mp h.n1
  have ts : TupS H (upd H R (.ins Cr dx (rf (.ref L) (.str (eS e)) (.bl w)))) := fun a xs q => by rw [upd_ne (fun z => by rw [z, h.ob] at q; cases q)]; exact q
  refine ⟨fun a o q => by rw [upd_ne (fun z => by rw [z, h.nR] at q; cases q)]; exact h.same _ _ q, h.nR, h.nL, upd_same, by rw [upd_ne nLR]; exact h.ls, paired_impm h.br fun q m x hx => ⟨hx.1, hx.2.keep (fun o z => ?_) (fun o z => ?_) ts⟩, h.n1, h.n2⟩
  · rw [upd_ne (fun y => n1.1 (List.mem_map.mpr ⟨q, m, y⟩))]; exact z
  · obtain ⟨_, _, _, _, e2⟩ := h.bk m
    rw [upd_ne (fun y => by rw [y, h.ob] at e2; cases e2)]; exact z
/-- the last bracket -/
theorem RdS.last (h : RdS Cr Cb H0 H R L dx bs s) : ∃ bs0 b p, bs = bs0 ++ [(b, p)] ∧ BrAt Cb H b p s.top := by
  obtain ⟨bs0, q, e, _, hq⟩ := paired_snocs (show Paired _ bs (s.rest.reverse ++ [s.top]) from h.br)
  exact ⟨bs0, q.1, q.2, e, hq.2⟩
/-- the last bracket is another one -/
theorem RdS.setTop {bs0 : List (Addr × Addr)} {b p : Addr} (h : RdS Cr Cb H0 H R L dx (bs0 ++ [(b, p)]) s) {x : Br} (k : But b p H H1) (hb : BrAt Cb H1 b p x) : RdS Cr Cb H0 H1 R L dx (bs0 ++ [(b, p)]) { s with top := x } := by
  obtain ⟨bs1, q, e, pr, hq⟩ := paired_snocs (show Paired _ (bs0 ++ [(b, p)]) (s.rest.reverse ++ [s.top]) from h.br)
  obtain ⟨rfl, e2⟩ := List.append_inj' e rfl
  cases (List.cons.inj e2).1
  obtain ⟨⟨nb, np⟩, dy, vs, eb, ep, _⟩ := hq
  have m1 := List.nodup_cons.mp h.n1
  have m2 := List.nodup_cons.mp h.n2
  have nRb : R ≠ b := fun z => m1.1 (List.mem_map.mpr ⟨(b, p), by simp, z.symm⟩)
  have nRp : R ≠ p := fun z => by have := h.ob; rw [z, ep] at this; cases this
  have nLp : L ≠ p := fun z => m2.1 (List.mem_map.mpr ⟨(b, p), by simp, z.symm⟩)
  have nLb : L ≠ b := fun z => by have := h.ls; rw [z, eb] at this; cases this
  have d1 : ∀ q ∈ bs0, q.1 ≠ b := fun q m z => by
    have := m1.2
    rw [List.map_append] at this
    exact (List.nodup_append.mp this).2.2 q.1 (List.mem_map.mpr ⟨q, m, rfl⟩) b (by simp) z
  have d2 : ∀ q ∈ bs0, q.2 ≠ p := fun q m z => by
    have := m2.2
    rw [List.map_append] at this
    exact (List.nodup_append.mp this).2.2 q.2 (List.mem_map.mpr ⟨q, m, rfl⟩) p (by simp) z
  have ts : TupS H H1 := fun a xs z => k a _ (fun y => by rw [y, eb] at z; cases z) (fun y => by rw [y, ep] at z; cases z) z
  refine ⟨fun a o z => k a o (fun y => by rw [y, nb] at z; cases z) (fun y => by rw [y, np] at z; cases z) (h.same _ _ z), h.nR, h.nL, k _ _ nRb nRp h.ob, k _ _ nLb nLp h.ls, ?_, h.n1, h.n2⟩
  refine paired_app (paired_impm pr fun q m x hx => ⟨hx.1, ?_⟩) (.cons ⟨⟨nb, np⟩, hb⟩ .nil)
  obtain ⟨_, _, _, e1, e3⟩ := h.bk (List.mem_append_left _ m)
  exact hx.2.keep (fun o z => k _ _ (d1 q m) (fun y => by rw [y, ep] at e1; cases e1) z) (fun o z => k _ _ (fun y => by rw [y, eb] at e3; cases e3) (d2 q m) z) ts
/-- one bracket more -/
theorem RdS.push {b p : Addr} (h : RdS Cr Cb H0 H R L dx bs s) (nb : H b = none) (np : H p = none) (k : ∀ a o, a ≠ b → H a = some o → H1 a = some o) (hb : BrAt Cb H1 b p {}) :
    RdS Cr Cb H0 (upd H1 L (.lst ((bs.map fun q => .ref q.1) ++ [.ref b]))) R L dx (bs ++ [(b, p)]) (inside s) := by
  have g : Same H H1 := fun a o z => k a o (fun y => by rw [y, nb] at z; cases z) z
  have h1 := h.grow g
  have n1 := List.nodup_cons.mp h.n1
  have n2 := List.nodup_cons.mp h.n2
  have nLb : L ≠ b := fun z => by have := h.ls; rw [z, nb] at this; cases this
  have nLp : L ≠ p := fun z => by have := h.ls; rw [z, np] at this; cases this
  have nRL : R ≠ L := fun z => by have := h.ob; rw [z, h.ls] at this; cases this
  have ts : TupS H1 (upd H1 L (.lst ((bs.map fun q => .ref q.1) ++ [.ref b]))) := fun a xs q => by rw [upd_ne (fun z => by rw [z, h1.ls] at q; cases q)]; exact q
  have fb : H0 b = none := none_of_same h.same nb
  have fp : H0 p = none := none_of_same h.same np
  refine ⟨fun a o q => by rw [upd_ne (fun z => by rw [z, h.nL] at q; cases q)]; exact h1.same _ _ q, h.nR, h.nL, by rw [upd_ne nRL]; exact h1.ob, by rw [upd_same, List.map_append]; rfl, ?_, ?_, ?_⟩
  · have e : (inside s).stk = s.stk ++ [({} : Br)] := by simp [inside, Rs.stk]
    rw [e]
    refine paired_app (paired_impm h1.br fun q m x hx => ⟨hx.1, hx.2.keep (fun o z => ?_) (fun o z => ?_) ts⟩) (.cons ⟨⟨fb, fp⟩, hb.keep (fun o z => by rw [upd_ne (Ne.symm nLb)]; exact z) (fun o z => by rw [upd_ne (Ne.symm nLp)]; exact z) ts⟩ .nil)
    · obtain ⟨_, _, _, e1, _⟩ := h1.bk m
      rw [upd_ne (fun y => by rw [y, h1.ls] at e1; cases e1)]; exact z
    · rw [upd_ne (fun y => n2.1 (List.mem_map.mpr ⟨q, m, y⟩))]; exact z
  · rw [List.map_append, ← List.cons_append]
    refine List.nodup_append.mpr ⟨h.n1, by simp, fun a m c mc => ?_⟩
    rw [List.map_cons, List.map_nil, List.mem_singleton] at mc
    rw [mc]
    rintro rfl
    rcases List.mem_cons.mp m with z | z
    · have := h.ob; rw [← z, nb] at this; cases this
    · obtain ⟨q, mq, e⟩ := List.mem_map.mp z
      obtain ⟨_, _, _, e1, _⟩ := h.bk mq
      rw [e, nb] at e1; cases e1
  · rw [List.map_append, ← List.cons_append]
    refine List.nodup_append.mpr ⟨h.n2, by simp, fun a m c mc => ?_⟩
    rw [List.map_cons, List.map_nil, List.mem_singleton] at mc
    rw [mc]
    rintro rfl
    rcases List.mem_cons.mp m with z | z
    · exact nLp z.symm
    · obtain ⟨q, mq, e⟩ := List.mem_map.mp z
      obtain ⟨_, _, _, _, e1⟩ := h.bk mq
      rw [e, np] at e1; cases e1
/-- one bracket less -/
theorem RdS.pop {bs0 : List (Addr × Addr)} {q : Addr × Addr} {y : Br} {r : List Br} (h : RdS Cr Cb H0 H R L dx (bs0 ++ [q]) s) (hr : s.rest = y :: r) :
    RdS Cr Cb H0 (upd H L (.lst (bs0.map fun q => .ref q.1))) R L dx bs0 { s with top := y, rest := r } := by
  have n2 := List.nodup_cons.mp h.n2
  have nRL : R ≠ L := fun z => by have := h.ob; rw [z, h.ls] at this; cases this
  have ts : TupS H (upd H L (.lst (bs0.map fun q => .ref q.1))) := fun a xs q => by rw [upd_ne (fun z => by rw [z, h.ls] at q; cases q)]; exact q
  obtain ⟨bs1, q1, e, pr, hq⟩ := paired_snocs (show Paired _ (bs0 ++ [q]) (s.rest.reverse ++ [s.top]) from h.br)
  obtain ⟨rfl, e2⟩ := List.append_inj' e rfl
  refine ⟨fun a o q => by rw [upd_ne (fun z => by rw [z, h.nL] at q; cases q)]; exact h.same _ _ q, h.nR, h.nL, by rw [upd_ne nRL]; exact h.ob, upd_same, ?_, ?_, ?_⟩
  · have e3 : ({ s with top := y, rest := r } : Rs).stk = s.rest.reverse := by simp [Rs.stk, hr]
    rw [e3]
    refine paired_impm pr fun q m x hx => ⟨hx.1, hx.2.keep (fun o z => ?_) (fun o z => ?_) ts⟩
    · obtain ⟨_, _, _, e1, _⟩ := h.bk (List.mem_append_left _ m)
      rw [upd_ne (fun y => by rw [y, h.ls] at e1; cases e1)]; exact z
    · rw [upd_ne (fun y => n2.1 (List.mem_map.mpr ⟨q, List.mem_append_left _ m, y⟩))]; exact z
  · have := h.n1
    rw [List.map_append, ← List.cons_append] at this
    exact (List.nodup_append.mp this).1
  · have := h.n2
    rw [List.map_append, ← List.cons_append] at this
    exact (List.nodup_append.mp this).1
end
end K7

set_option Elab.async false
set_option linter.all false
set_option maxRecDepth 100000
set_option maxHeartbeats 4000000
namespace K7
open PySem PySem.Spec PyProof.Rows L2 GX NdefX
/-- how many parts and nots a reader's brackets hold at most -/
structure Bd (n : Nat) (s : Rs) : Prop where
  all : ∀ x ∈ s.stk, x.parts.length ≤ n ∧ x.nots ≤ n
  len : s.rest.length ≤ n
def Good (s : Rs) : Prop := s.wants = false → s.top.parts ≠ []
theorem Bd.top {n : Nat} {s : Rs} (h : Bd n s) : s.top.parts.length ≤ n ∧ s.top.nots ≤ n := h.all s.top (by simp [Rs.stk])
theorem bd_mk {n : Nat} {s : Rs} (h : Bd n s) {x : Br} {e : Option Bool} {w : Bool} (h1 : x.parts.length ≤ n + 1) (h2 : x.nots ≤ n + 1) : Bd (n + 1) { s with top := x, edge := e, wants := w } := by
  refine ⟨fun y m => ?_, by have := h.len; simp only; omega⟩
  simp only [Rs.stk, List.mem_append, List.mem_singleton] at m
  rcases m with m | m
  · have := h.all y (by simp [Rs.stk]; exact .inl (by simpa using m))
    omega
  · subst m; exact ⟨h1, h2⟩
theorem bd_took {n : Nat} {s : Rs} (h : Bd n s) (f : Fm) (d : Nat) (e : Option Bool) : Bd (n + 1) { s.took f d with edge := e } := by
  have := h.top
  refine bd_mk (s := s) h (x := s.top.take f d) (e := e) (w := false) ?_ ?_
  · simp only [Br.take, List.length_append, List.length_singleton]; omega
  · simp only [Br.take]; omega
theorem good_took {s : Rs} {f : Fm} {d : Nat} {e : Option Bool} : Good { s.took f d with edge := e } := fun _ => by simp [Rs.took, Br.take]
theorem step_bd {n : Nat} {s s1 : Rs} {w : List Nat} (h : Bd n s) (g : Good s) (e : step w s = some s1) : Bd (n + 1) s1 ∧ Good s1 := by
  have ht := h.top
  unfold step at e
  cases he : s.edge with
  | some r =>
    rw [he] at e
    simp only at e
    split at e
    · cases e; exact ⟨bd_took h _ _ _, good_took⟩
    · cases e
  | none =>
    rw [he] at e
    simp only at e
    split at e
    · rename_i hw
      unfold stepB at e
      split at e
      · cases e
        refine ⟨⟨fun y m => ?_, by have := h.len; simp only [List.length_cons]; omega⟩, fun z => by rw [hw] at z; cases z⟩
        simp only [Rs.stk, List.reverse_cons, List.mem_append, List.mem_singleton] at m
        rcases m with (m | m) | m
        · have := h.all y (by simp [Rs.stk]; exact .inl (by simpa using m)); omega
        · subst m; omega
        · subst m; exact ⟨Nat.zero_le _, Nat.zero_le _⟩
      split at e
      · cases e
        exact ⟨bd_mk (s := s) h (e := s.edge) (w := s.wants) (by simp only; omega) (by simp only; omega), fun z => by rw [hw] at z; cases z⟩
      split at e
      · cases e; exact ⟨bd_mk (s := s) h (x := s.top) (e := some true) (w := s.wants) (by omega) (by omega), fun z => by rw [hw] at z; cases z⟩
      split at e
      · cases e; exact ⟨bd_mk (s := s) h (x := s.top) (e := some false) (w := s.wants) (by omega) (by omega), fun z => by rw [hw] at z; cases z⟩
      split at e
      · cases e; exact ⟨bd_took h _ _ s.edge, good_took (e := s.edge)⟩
      split at e
      · cases e; exact ⟨bd_took h _ _ s.edge, good_took (e := s.edge)⟩
      split at e
      · cases e; exact ⟨bd_took h _ _ s.edge, good_took (e := s.edge)⟩
      · cases e
    · unfold stepA at e
      split at e
      · cases e
      · rename_i b r hr
        have hsub : Bd n { s with top := b, rest := r } := by
          refine ⟨fun y m => h.all y ?_, by have := h.len; rw [hr, List.length_cons] at this; simp only; omega⟩
          simp only [Rs.stk, List.mem_append, List.mem_singleton, hr, List.reverse_cons] at m ⊢
          exact .inl m
        split at e
        · cases e; exact ⟨bd_took hsub _ _ s.edge, good_took (e := s.edge)⟩
        split at e
        · cases e; exact ⟨bd_mk (s := s) h (e := s.edge) (w := true) (by simp only; omega) (by simp only; omega), fun z => by cases z⟩
        split at e
        · cases e; exact ⟨bd_mk (s := s) h (e := s.edge) (w := true) (by simp only; omega) (by simp only; omega), fun z => by cases z⟩
        · cases e
theorem tEq (w : List Nat) (k : Str) (l : List Nat) (h : k = T l) : decide (V.str (T w) = V.str k) = decide (w = l) := by
  rw [strEq, h]
  exact decide_eq_decide.mpr (T_iff w l)
/-- took -/
def spTook (Cr Cb : Addr) : Sp := fun vs H Q _ => ∃ (H0 : Hp) (R L dx : Addr) (bs : List (Addr × Addr)) (s : Rs) (v : V) (f : Fm) (d : Nat), vs = [.ref R, v, .int (d : Nat)] ∧ RdS Cr Cb H0 H R L dx bs s ∧ Dh H v f.data ∧ s.top.parts.length ≤ 1000000 ∧ s.top.nots ≤ 1000000 ∧
  ∀ H1, RdS Cr Cb H0 H1 R L dx bs (s.took f d) → Q .non H1
/-- read, and its three ways -/
def spStep (Cr Cb : Addr) (ask : Rs → Prop) (st : List Nat → Rs → Option Rs) : Sp := fun vs H Q _ => ∃ (H0 : Hp) (R L dx : Addr) (bs : List (Addr × Addr)) (s : Rs) (w : List Nat), vs = [.ref R, .str (T w)] ∧ RdS Cr Cb H0 H R L dx bs s ∧ ask s ∧ Bd 900000 s ∧ Good s ∧ w.length ≤ 1000000 ∧
  (∀ s1, st w s = some s1 → ∀ H1 bs1, RdS Cr Cb H0 H1 R L dx bs1 s1 → Q (.bl true) H1) ∧ (st w s = none → ∀ H1, Same H0 H1 → Q (.bl false) H1)
def stepE (w : List Nat) (s : Rs) : Option Rs := match s.edge with
  | some r => if nameB (T w) = true then some { s.took (.edge r (T w)) 1 with edge := none } else none
  | none => none
section
variable {P : Program} {w : World} {K : PySem.W.Frag} {mg : Str → Option Value} {base : Heap}
theorem last_ix {l : List (Addr × Addr)} {q : Addr × Addr} : atI ((l ++ [q]).map fun q => V.ref q.1) (-1) = some (.ref q.1) := by
  rw [List.map_append]; exact atI_end _ _
theorem ok_took {k : Nat} (D : Pr P K mg) : FnOk P w K mg base CX0 (k + 2) D.Reader_took.f D.Reader_took.fd ["self", "formula", "depth"] (spTook D.Reader.C D.Bracket.C) := by
  have G_Bracket_take : FnOk P w K mg base CX0 (k + 1) D.Bracket_take.f D.Bracket_take.fd ["self", "formula", "depth"] (spTake D.Bracket.C) := ok_take D
  refine D.Reader_took.F.ok sc_Reader_took (fun vs H Q E h => ?_) (fun cdv A outer s H vs Q E hr h => ?_)
  · obtain ⟨H0, R, L, dx, bs, s, v, f, d, rfl, _⟩ := h
    rfl
  · obtain ⟨H0, R, L, dx, bs, s, v, f, d, rfl, rd, hv, h1, h2, q⟩ := h
    have nB : NoAttr K D.Reader.C "brackets" := D.Reader.nf _ (by simp)
    have nW : NoAttr K D.Reader.C "wants" := D.Reader.nf _ (by simp)
    refine ⟨_, (pss_cons (ps_expr (pe_meth (pe_ix (r := rIxL K) ix_list (pe_fld (pv 0) rfl) (pe_un un_neg pe_int) (fun _ _ => rfl)) D.Bracket.cl D.Bracket_take.M G_Bracket_take (hr.mono (by omega)) D.Bracket_take.b .nil pass0 (pa_cons (pv 1) (pa_cons (pv 2) pa_nil))))
      (pss_one (ps_fld (pv 0) pe_bl rfl))), ?_⟩
    obtain ⟨bs0, b, p, rfl, hb⟩ := rd.last
    refine ⟨_, rfl, R, D.Reader.C, dx, _, _, rfl, rd.ob, D.Reader.cl, nB, rf_brackets _ _ _, 1, rfl, L, _, -1, .ref b, rfl, rfl, sqL rd.ls, last_ix, ?_⟩
    obtain ⟨dy, vs2, eb, _, _⟩ := id hb
    refine ⟨b, dy, _, rfl, eb, bf_no _ _ _ _ (by decide +kernel) (by decide +kernel) (by decide +kernel) (by decide +kernel), v, rfl, _, rfl, b, p, s.top, v, f, d, rfl, hb, hv, h1, h2, fun H1 k1 hb1 => ?_⟩
    have rd1 := rd.setTop k1 hb1
    refine ⟨_, rfl, R, D.Reader.C, dx, _, rfl, rd1.ob, D.Reader.cl, nW, rf_len _ _ _, ?_⟩
    rw [rf_put_wants]
    exact q _ (rd1.setF s.edge false)
theorem ok_edge_name {k : Nat} (D : Pr P K mg) : FnOk P w K mg base CX0 (k + 3) D.Reader_read_edge_name.f D.Reader_read_edge_name.fd ["self", "word"] (spStep D.Reader.C D.Bracket.C (fun s => s.edge ≠ none) stepE) := by
  have G_is_name : FnOk P w K mg base CX0 (k + 1) D.is_name.f D.is_name.fd ["value"] spName := ok_name D
  have G_Reader_took : FnOk P w K mg base CX0 (k + 2) D.Reader_took.f D.Reader_took.fd ["self", "formula", "depth"] (spTook D.Reader.C D.Bracket.C) := ok_took D
  refine D.Reader_read_edge_name.F.ok sc_Reader_read_edge_name (fun vs H Q E h => ?_) (fun cdv A outer s H vs Q E hr h => ?_)
  · obtain ⟨H0, R, L, dx, bs, s, w, rfl, _⟩ := h
    rfl
  · obtain ⟨H0, R, L, dx, bs, s, w, rfl, rd, ask, bd, gd, hw, q1, q2⟩ := h
    have nE : NoAttr K D.Reader.C "edge" := D.Reader.nf _ (by simp)
    obtain ⟨r, er⟩ : ∃ r, s.edge = some r := by cases h : s.edge with
      | none => exact absurd h ask
      | some r => exact ⟨r, rfl⟩
    unfold stepE at q1 q2
    rw [er] at q1 q2
    refine ⟨_, (pss_cons (ps_if (pt_not (pt_val (pe_call G_is_name (hr.mono (by omega)) (by rfl) D.is_name.g D.is_name.F.kp D.is_name.b .nil pass0 (pa_cons (pv 1) pa_nil)))) (pss_one (ps_ret pe_bl)) pss_nil)
      (pss_cons (ps_expr (pe_meth (pv 0) D.Reader.cl D.Reader_took.M G_Reader_took (hr.mono (by omega)) D.Reader_took.b .nil pass0 (pa_cons (pe_tup (pa_cons (pe_fld (pv 0) rfl) (pa_cons (pv 1) pa_nil))) (pa_cons pe_int pa_nil))))
      (pss_cons (ps_fld (pv 0) pe_str rfl)
      (pss_one (ps_ret pe_bl))))), ?_⟩
    refine ⟨_, rfl, .str (T w), .str (T w), rfl, .str _, fun z e => ?_, fun H1 s1 => ⟨nameB (T w), rfl, ?_⟩⟩
    · cases e; rw [T_size]; exact hw
    have rd1 := rd.grow s1
    cases hn : nameB (T w) with
    | false => exact iteT (q2 (if_neg (by rw [hn]; exact Bool.false_ne_true)) H1 rd1.same)
    | true =>
      refine iteF ⟨_, rfl, R, dx, _, rfl, rd1.ob, rf_no _ _ _ (by decide +kernel) (by decide +kernel) (by decide +kernel), ?_⟩
      refine ⟨_, rfl, R, D.Reader.C, dx, _, _, rfl, rd1.ob, D.Reader.cl, nE, rf_edge _ _ _, _, rfl, by show 2 ≤ sizeLine; decide, fun t nt => ?_⟩
      have st := same_upd nt (o := .tup [.str (eS s.edge), .str (T w)])
      refine ⟨H0, R, L, dx, bs, s, .ref t, .edge r (T w), 1, rfl, rd1.grow st, ?_, by have := bd.top; omega, by have := bd.top; omega, fun H2 rd2 => ?_⟩
      · rw [er]; exact .tup upd_same (.cons (.str _) (.cons (.str _) .nil))
      · refine ⟨_, rfl, R, D.Reader.C, dx, _, rfl, rd2.ob, D.Reader.cl, nE, rf_len _ _ _, ?_⟩
        rw [rf_put_edge]
        exact q1 _ (if_pos hn) _ bs (rd2.setF none false)
end
end K7

set_option Elab.async false
set_option linter.all false
set_option maxRecDepth 100000
set_option maxHeartbeats 4000000
namespace K7
open PySem PySem.Spec PyProof.Rows L2 GX NdefX
theorem k_lb : (Str.ofString "(" : Str) = T [40] := by decide +kernel
theorem k_rb : (Str.ofString ")" : Str) = T [41] := by decide +kernel
theorem k_not : (Str.ofString "not" : Str) = T [110, 111, 116] := by decide +kernel
theorem k_rise : (Str.ofString "rise" : Str) = T (eL true) := by decide +kernel
theorem k_fall : (Str.ofString "fall" : Str) = T (eL false) := by decide +kernel
theorem k_0 : (Str.ofString "0" : Str) = T [48] := by decide +kernel
theorem k_1 : (Str.ofString "1" : Str) = T [49] := by decide +kernel
theorem k_and : (Str.ofString "and" : Str) = T (jL false) := by decide +kernel
theorem k_or : (Str.ofString "or" : Str) = T (jL true) := by decide +kernel
theorem in2 (w a b : List Nat) : inV (.str (T w)) [V.str (T a), V.str (T b)] = decide (w = a ∨ w = b) := by
  have := inStr (T w) [T a, T b]
  simp only [List.map_cons, List.map_nil] at this
  rw [this]
  simp only [List.any_cons, List.any_nil, Bool.or_false, T_iff]
  by_cases h1 : w = a <;> by_cases h2 : w = b <;> simp [h1, h2]
section
variable {P : Program} {w : World} {K : PySem.W.Frag} {mg : Str → Option Value} {base : Heap}
theorem ok_beg {k : Nat} (D : Pr P K mg) : FnOk P w K mg base CX0 (k + 3) D.Reader_read_beginning.f D.Reader_read_beginning.fd ["self", "word"] (spStep D.Reader.C D.Bracket.C (fun s => s.edge = none ∧ s.wants = true) stepB) := by
  have G_is_name : FnOk P w K mg base CX0 (k + 1) D.is_name.f D.is_name.fd ["value"] spName := ok_name D
  have G_Bracket_init : FnOk P w K mg base CX0 (k + 1) D.Bracket.f D.Bracket.fd ["self"] (spBrInit D.Bracket.C) := ok_br_init D
  have G_Reader_took : FnOk P w K mg base CX0 (k + 2) D.Reader_took.f D.Reader_took.fd ["self", "formula", "depth"] (spTook D.Reader.C D.Bracket.C) := ok_took D
  obtain ⟨a_EDGES, m_EDGES, hE⟩ := D.k_EDGES
  refine D.Reader_read_beginning.F.ok sc_Reader_read_beginning (fun vs H Q E h => ?_) (fun cdv A outer s H vs Q E hr h => ?_)
  · obtain ⟨H0, R, L, dx, bs, s, w, rfl, _⟩ := h
    rfl
  · obtain ⟨H0, R, L, dx, bs, s, w, rfl, rd, ⟨ask1, ask2⟩, bd, gd, hw, q1, q2⟩ := h
    have nB : NoAttr K D.Reader.C "brackets" := D.Reader.nf _ (by simp)
    have nE : NoAttr K D.Reader.C "edge" := D.Reader.nf _ (by simp)
    have nN : NoAttr K D.Bracket.C "nots" := D.Bracket.nf _ (by simp)
    have bt := bd.top
    refine ⟨_, (pss_cons (ps_set (i := 2) sc_Reader_read_beginning.nd rfl (.inl rfl) (pe_ix (r := rIxL K) ix_list (pe_fld (pv 0) rfl) (pe_un un_neg pe_int) (fun _ _ => rfl)))
      (pss_cons (ps_if (pt_cmpR op_eq (pv 1) pe_str (nomark _)) (pss_one (ps_expr (pe_bm PySem.F.plainAttrs_list PySem.F.slot_list_append PySem.F.type_list_append mt_append (pe_fld (pv 0) rfl) (pa_cons (pe_make0 D.Bracket.M G_Bracket_init (hr.mono (by omega)) (by rfl) D.Bracket.g D.Bracket.b .nil pass0) pa_nil)))) (pss_one (ps_if (pt_cmpR op_eq (pv 1) pe_str (nomark _)) (pss_one (ps_fldaug (pv 2) pe_int in_add)) (pss_one (ps_if (pt_cmpR op_in_seq (pv 1) (pe_glob (v := .ref a_EDGES) (by rfl) m_EDGES rfl) (by rfl)) (pss_one (ps_fld (pv 0) (pv 1) rfl)) (pss_one (ps_if (pt_cmpR op_in_seq (pv 1) (pe_tup (pa_cons pe_str (pa_cons pe_str pa_nil))) (by rfl)) (pss_one (ps_expr (pe_meth (pv 0) D.Reader.cl D.Reader_took.M G_Reader_took (hr.mono (by omega)) D.Reader_took.b .nil pass0 (pa_cons (pe_tup (pa_cons pe_str (pa_cons (pe_callTy call_int_str (by rfl) D.B.int (by decide +kernel) (pa_cons (pv 1) pa_nil)) pa_nil))) (pa_cons pe_int pa_nil))))) (pss_one (ps_if (pt_val (pe_call G_is_name (hr.mono (by omega)) (by rfl) D.is_name.g D.is_name.F.kp D.is_name.b .nil pass0 (pa_cons (pv 1) pa_nil))) (pss_one (ps_expr (pe_meth (pv 0) D.Reader.cl D.Reader_took.M G_Reader_took (hr.mono (by omega)) D.Reader_took.b .nil pass0 (pa_cons (pe_tup (pa_cons pe_str (pa_cons (pv 1) pa_nil))) (pa_cons pe_int pa_nil))))) (pss_one (ps_ret pe_bl)))))))))))
      (pss_one (ps_ret pe_bl)))), ?_⟩
    obtain ⟨bs0, b, p, rfl, hb⟩ := rd.last
    obtain ⟨dy, vs2, eb, ep, hd⟩ := id hb
    refine ⟨_, rfl, R, D.Reader.C, dx, _, _, rfl, rd.ob, D.Reader.cl, nB, rf_brackets _ _ _, 1, rfl, L, _, -1, .ref b, rfl, rfl, sqL rd.ls, last_ix, ?_⟩
    refine ⟨.str (T w), rfl, rfl, _, rfl, ?_⟩
    rw [tEq w _ _ k_lb]
    by_cases c1 : w = [40]
    · rw [decide_eq_true c1]
      have st : stepB w s = some (inside s) := by unfold stepB; rw [if_pos c1]; rfl
      refine iteT ⟨_, rfl, R, D.Reader.C, dx, _, _, rfl, rd.ob, D.Reader.cl, nB, rf_brackets _ _ _, .inl ⟨rfl, _, sqL rd.ls⟩, fun x dz nx nz nzx => ⟨x, dz, rfl, upd_same, fun H1 pp k1 np hx => ?_⟩⟩
      have nb1 : pp ≠ x := fun e => by rw [e, upd_same] at np; cases np
      have nb2 : pp ≠ dz := fun e => by rw [e, upd_ne nzx, upd_same] at np; cases np
      have np0 : H pp = none := by rw [upd_ne nb1, upd_ne nb2] at np; exact np
      have kk : ∀ a o, a ≠ x → H a = some o → H1 a = some o := fun a o na e => k1 a o na (by rw [upd_ne na, upd_ne (ne_of_none e nz)]; exact e)
      have g : Same H H1 := fun a o e => kk a o (ne_of_none e nx) e
      have rd1 := rd.push nx np0 kk hx
      refine ⟨rfl, L, _, .ref x, rfl, rfl, g _ _ rd.ls, ?_, ?_⟩
      · rw [List.length_map, rd.br.length, sizeLine_eq]
        have := bd.len
        simp only [Rs.stk, List.length_append, List.length_reverse, List.length_singleton]
        omega
      · exact q1 _ st _ _ rd1
    rw [decide_eq_false c1]
    refine iteF ⟨.str (T w), rfl, rfl, _, rfl, ?_⟩
    rw [tEq w _ _ k_not]
    by_cases c2 : w = [110, 111, 116]
    · rw [decide_eq_true c2]
      have st : stepB w s = some { s with top := { s.top with nots := s.top.nots + 1 } } := by unfold stepB; rw [if_neg c1, if_pos c2]
      refine iteT ⟨_, rfl, b, D.Bracket.C, dy, _, _, rfl, eb, D.Bracket.cl, nN, bf_nots _ _ _ _, (s.top.nots : Nat), 1, rfl, rfl, dy, _, eb, bf_len _ _ _ _, ?_⟩
      rw [bf_put_nots]
      have npb : p ≠ b := fun z => by rw [z, eb] at ep; cases ep
      refine q1 _ st _ _ (rd.setTop (x := { s.top with nots := s.top.nots + 1 }) (fun a o na _ e => by rw [upd_ne na]; exact e) ⟨dy, vs2, ?_, by rw [upd_ne npb]; exact ep, ?_⟩)
      · rw [upd_same]; rfl
      · exact parts_tup (H := H) (fun a xs e => by rw [upd_ne (fun z => by rw [z, eb] at e; cases e)]; exact e) hd
    rw [decide_eq_false c2]
    refine iteF ⟨.str (T w), rfl, a_EDGES, [.str (T (eL true)), .str (T (eL false))], rfl, .inr (by rw [← k_rise, ← k_fall]; exact hE H), rfl, rfl, _, rfl, ?_⟩
    show if (if false = true then _ else inV (.str (T w)) [V.str (T (eL true)), V.str (T (eL false))]) = true then _ else _
    rw [if_neg Bool.false_ne_true, in2]
    by_cases c3 : w = eL true ∨ w = eL false
    · rw [decide_eq_true c3]
      obtain ⟨r, er⟩ : ∃ r, w = eL r := c3.elim (fun e => ⟨true, e⟩) fun e => ⟨false, e⟩
      have st : stepB w s = some { s with edge := some r } := by
        unfold stepB
        rw [if_neg c1, if_neg c2]
        cases r with
        | true => rw [if_pos er]
        | false => rw [if_neg (by rw [er]; decide), if_pos er]
      refine iteT ⟨_, rfl, _, rfl, R, D.Reader.C, dx, _, rfl, rd.ob, D.Reader.cl, nE, rf_len _ _ _, ?_⟩
      rw [rf_put_edge]
      have := rd.setF (some r) s.wants
      rw [show eS (some r) = T w by rw [er]; exact eK_T r] at this
      exact q1 _ st _ _ this
    rw [decide_eq_false c3]
    refine iteF ⟨_, rfl, by show 2 ≤ sizeLine; decide, fun t nt => ?_⟩
    have sT := same_upd nt (o := .tup [.str "0", .str "1"])
    have eT : upd H t (.tup [.str "0", .str "1"]) t = some (.tup [.str "0", .str "1"]) := upd_same
    have rd1 := rd.grow sT
    generalize upd H t (.tup [.str "0", .str "1"]) = H1 at sT eT rd1
    refine ⟨t, [.str (T [48]), .str (T [49])], rfl, .inr (by rw [← k_0, ← k_1]; exact sqT eT), rfl, rfl, _, rfl, ?_⟩
    show if (if false = true then _ else inV (.str (T w)) [V.str (T [48]), V.str (T [49])]) = true then _ else _
    rw [if_neg Bool.false_ne_true, in2]
    by_cases c4 : w = [48] ∨ w = [49]
    · rw [decide_eq_true c4]
      obtain ⟨c, ec⟩ : ∃ c : Bool, w = [if c then 49 else 48] := c4.elim (fun e => ⟨false, e⟩) fun e => ⟨true, e⟩
      have st : stepB w s = some (s.took (.bit c) 1) := by
        unfold stepB
        rw [if_neg c1, if_neg c2, if_neg (fun e => c3 (.inl e)), if_neg (fun e => c3 (.inr e))]
        cases c with
        | true => rw [if_neg (by rw [ec]; decide), if_pos (show w = [49] from ec)]
        | false => rw [if_pos (show w = [48] from ec)]
      refine iteT ⟨_, rfl, R, dx, _, rfl, rd1.ob, rf_no _ _ _ (by decide +kernel) (by decide +kernel) (by decide +kernel), ?_⟩
      refine ⟨_, rfl, T w, if c then 1 else 0, rfl, by rw [ec]; cases c <;> decide +kernel, by rw [ec]; cases c <;> decide, by show 2 ≤ sizeLine; decide, fun u nu => ?_⟩
      have su := same_upd nu (o := .tup [.str "bit", .int (if c then 1 else 0)])
      refine ⟨H0, R, L, dx, _, s, .ref u, .bit c, 1, rfl, rd1.grow su, .tup upd_same (.cons (.str _) (.cons (.int _) .nil)), by omega, by omega, fun H2 rd2 => q1 _ st _ _ rd2⟩
    rw [decide_eq_false c4]
    refine iteF ⟨_, rfl, .str (T w), .str (T w), rfl, .str _, fun z e => ?_, fun H2 s2 => ⟨nameB (T w), rfl, ?_⟩⟩
    · cases e; rw [T_size]; exact hw
    have rd2 := rd1.grow s2
    have base : stepB w s = if nameB (T w) = true then some (s.took (.name (T w)) 1) else none := by
      unfold stepB
      rw [if_neg c1, if_neg c2, if_neg (fun e => c3 (.inl e)), if_neg (fun e => c3 (.inr e)), if_neg (fun e => c4 (.inl e)), if_neg (fun e => c4 (.inr e))]
    cases hn : nameB (T w) with
    | false =>
      exact iteF (q2 (by rw [base, hn]; rfl) H2 rd2.same)
    | true =>
      have st : stepB w s = some (s.took (.name (T w)) 1) := by rw [base, hn]; rfl
      refine iteT ⟨_, rfl, R, dx, _, rfl, rd2.ob, rf_no _ _ _ (by decide +kernel) (by decide +kernel) (by decide +kernel), ?_⟩
      refine ⟨_, rfl, by show 2 ≤ sizeLine; decide, fun u nu => ?_⟩
      have su := same_upd nu (o := .tup [.str "name", .str (T w)])
      exact ⟨H0, R, L, dx, _, s, .ref u, .name (T w), 1, rfl, rd2.grow su, .tup upd_same (.cons (.str _) (.cons (.str _) .nil)), by omega, by omega, fun H3 rd3 => q1 _ st _ _ rd3⟩
theorem ok_behind {k : Nat} (D : Pr P K mg) : FnOk P w K mg base CX0 (k + 3) D.Reader_read_behind.f D.Reader_read_behind.fd ["self", "word"] (spStep D.Reader.C D.Bracket.C (fun s => s.edge = none ∧ s.wants = false) stepA) := by
  have G_Bracket_whole : FnOk P w K mg base CX0 (k + 1) D.Bracket_whole.f D.Bracket_whole.fd ["self"] (spWhole2 D.Bracket.C) := ok_whole2 D
  have G_Reader_took : FnOk P w K mg base CX0 (k + 2) D.Reader_took.f D.Reader_took.fd ["self", "formula", "depth"] (spTook D.Reader.C D.Bracket.C) := ok_took D
  obtain ⟨a_JOINTS, m_JOINTS, hJ⟩ := D.k_JOINTS
  refine D.Reader_read_behind.F.ok sc_Reader_read_behind (fun vs H Q E h => ?_) (fun cdv A outer s H vs Q E hr h => ?_)
  · obtain ⟨H0, R, L, dx, bs, s, w, rfl, _⟩ := h
    rfl
  · obtain ⟨H0, R, L, dx, bs, s, w, rfl, rd, ⟨ask1, ask2⟩, bd, gd, hw, q1, q2⟩ := h
    have nB : NoAttr K D.Reader.C "brackets" := D.Reader.nf _ (by simp)
    have nW : NoAttr K D.Reader.C "wants" := D.Reader.nf _ (by simp)
    have nJ : NoAttr K D.Bracket.C "joint" := D.Bracket.nf _ (by simp)
    have bt := bd.top
    refine ⟨_, (pss_cons (ps_if (pt_cmpR op_eq (pe_callB call_len (by rfl) D.B.len PySem.boot_len (pa_cons (pe_fld (pv 0) rfl) pa_nil)) pe_int (nomark _)) (pss_one (ps_ret pe_bl)) pss_nil)
      (pss_cons (ps_set (i := 2) sc_Reader_read_behind.nd rfl (.inl rfl) (pe_ix (r := rIxL K) ix_list (pe_fld (pv 0) rfl) (pe_un un_neg pe_int) (fun _ _ => rfl)))
      (pss_cons (ps_if (pt_cmpR op_eq (pv 1) pe_str (nomark _)) (pss_cons (ps_expr (pe_bm0 PySem.F.plainAttrs_list PySem.F.slot_list_pop PySem.F.type_list_pop mt_pop (pe_fld (pv 0) rfl))) (pss_cons (ps_asg (pe_meth0 (pv 2) D.Bracket.cl D.Bracket_whole.M G_Bracket_whole (hr.mono (by omega)) D.Bracket_whole.b .nil pass0) (pg_tup rfl (pgs_cons (pg_name (i := 3) sc_Reader_read_behind.nd rfl (.inl rfl)) (pgs_cons (pg_name (i := 4) sc_Reader_read_behind.nd rfl (.inl rfl)) pgs_nil)))) (pss_cons (ps_expr (pe_meth (pv 0) D.Reader.cl D.Reader_took.M G_Reader_took (hr.mono (by omega)) D.Reader_took.b .nil pass0 (pa_cons (pv 3) (pa_cons (pv 4) pa_nil)))) (pss_one (ps_ret pe_bl))))) pss_nil)
      (pss_cons (ps_if (PW.pt (pw_or (pt_cmpR op_notIn_seq (pv 1) (pe_glob (v := .ref a_JOINTS) (by rfl) m_JOINTS rfl) (by rfl)) (pw_or1 (pt_cmpR op_notIn_seq (pe_fld (pv 2) rfl) (pe_tup (pa_cons pe_str (pa_cons (pv 1) pa_nil))) (by rfl))))) (pss_one (ps_ret pe_bl)) pss_nil)
      (pss_cons (ps_fld (pv 2) (pv 1) rfl)
      (pss_cons (ps_fld (pv 0) pe_bl rfl)
      (pss_one (ps_ret pe_bl)))))))), ?_⟩
    obtain ⟨bs0, b, p, rfl, hb⟩ := rd.last
    obtain ⟨dy, vs2, eb, ep, hd⟩ := id hb
    have lb : ((bs0 ++ [(b, p)]).map fun q : Addr × Addr => V.ref q.1).length = s.rest.length + 1 := by
      rw [List.length_map, rd.br.length]
      simp [Rs.stk]
    refine ⟨_, rfl, R, D.Reader.C, dx, _, _, rfl, rd.ob, D.Reader.cl, nB, rf_brackets _ _ _, .ref L, s.rest.length + 1, rfl, lenV_sq (.inl rd.ls) lb, rfl, _, rfl, ?_⟩
    cases hr2 : s.rest with
    | nil =>
      refine iteT ?_
      exact q2 (by unfold stepA; rw [hr2]) H rd.same
    | cons y r =>
    refine iteFq (decide_eq_false (fun e => by have := V.int.inj e; simp at this; omega)) ?_
    refine ⟨_, rfl, R, D.Reader.C, dx, _, _, rfl, rd.ob, D.Reader.cl, nB, rf_brackets _ _ _, 1, rfl, L, _, -1, .ref b, rfl, rfl, sqL rd.ls, last_ix, ?_⟩
    refine ⟨.str (T w), rfl, rfl, _, rfl, ?_⟩
    rw [tEq w _ _ k_rb]
    have sA : stepA w s = if w = [41] then some (({ s with top := y, rest := r } : Rs).took s.top.whole.1 s.top.whole.2)
      else if w = jL false ∧ s.top.joint ≠ some true then some { s with top := { s.top with joint := some false }, wants := true }
      else if w = jL true ∧ s.top.joint ≠ some false then some { s with top := { s.top with joint := some true }, wants := true } else none := by
      unfold stepA; rw [hr2]
    by_cases c1 : w = [41]
    · rw [decide_eq_true c1]
      rw [if_pos c1] at sA
      have rd1 := rd.pop hr2
      refine iteT ⟨_, rfl, R, D.Reader.C, dx, _, _, rfl, rd.ob, D.Reader.cl, nB, rf_brackets _ _ _, .inl ⟨rfl, _, sqL rd.ls⟩, L, _, .ref b, rfl, rfl, rd.ls, ?_, ?_⟩
      · rw [List.map_append]; simp
      · rw [show ((bs0 ++ [(b, p)]).map fun q : Addr × Addr => V.ref q.1).dropLast = bs0.map fun q => V.ref q.1 by rw [List.map_append]; simp]
        have nLb : L ≠ b := fun z => by have := rd.ls; rw [z, eb] at this; cases this
        have nLp : L ≠ p := fun z => (List.nodup_cons.mp rd.n2).1 (List.mem_map.mpr ⟨(b, p), by simp, z.symm⟩)
        have ts : TupS H (upd H L (.lst (bs0.map fun q => .ref q.1))) := fun a xs q => by rw [upd_ne (fun z => by rw [z, rd.ls] at q; cases q)]; exact q
        have hb1 := hb.keep (H1 := upd H L (.lst (bs0.map fun q => .ref q.1))) (fun o z => by rw [upd_ne (Ne.symm nLb)]; exact z) (fun o z => by rw [upd_ne (Ne.symm nLp)]; exact z) ts
        generalize upd H L (.lst (bs0.map fun q => .ref q.1)) = H1 at rd1 hb1
        obtain ⟨dy1, vs3, eb1, _, _⟩ := id hb1
        refine ⟨_, rfl, b, dy1, _, rfl, eb1, bf_no _ _ _ _ (by decide +kernel) (by decide +kernel) (by decide +kernel) (by decide +kernel), b, p, s.top, rfl, hb1, gd ask2, fun a v H2 s2 ea hv => ?_⟩
        have rd2 := rd1.grow s2
        refine ⟨a, _, rfl, sqT ea, rfl, v, _, rfl, _, [], rfl, rfl, _, rfl, R, dx, _, rfl, rd2.ob, rf_no _ _ _ (by decide +kernel) (by decide +kernel) (by decide +kernel), v, rfl, _, rfl, H0, R, L, dx, bs0, _, v, s.top.whole.1, s.top.whole.2, rfl, rd2, hv, ?_, ?_, fun H3 rd3 => q1 _ sA _ _ rd3⟩
        · have := bd.all y (by simp [Rs.stk, hr2]); simp only; omega
        · have := bd.all y (by simp [Rs.stk, hr2]); simp only; omega
    rw [decide_eq_false c1]
    rw [if_neg c1] at sA
    refine iteF ⟨.str (T w), rfl, a_JOINTS, [.str (T (jL false)), .str (T (jL true))], rfl, .inr (by rw [← k_and, ← k_or]; exact hJ H), rfl, rfl, _, rfl, ?_⟩
    show if (if true = true then !inV (.str (T w)) [V.str (T (jL false)), V.str (T (jL true))] else _) = true then _ else _
    rw [if_pos rfl, in2]
    by_cases c2 : w = jL false ∨ w = jL true
    case neg =>
      rw [decide_eq_false c2]
      refine iteT (q2 ?_ H rd.same)
      rw [sA, if_neg (fun z => c2 (.inl z.1)), if_neg (fun z => c2 (.inr z.1))]
    rw [decide_eq_true c2]
    obtain ⟨z, ez⟩ : ∃ z, w = jL z := c2.elim (fun e => ⟨false, e⟩) fun e => ⟨true, e⟩
    refine iteF ⟨_, rfl, b, D.Bracket.C, dy, _, _, rfl, eb, D.Bracket.cl, nJ, bf_joint _ _ _ _, _, rfl, by show 2 ≤ sizeLine; decide, fun t nt => ?_⟩
    have sT := same_upd nt (o := .tup [.str "", .str (T w)])
    have eT : upd H t (.tup [.str "", .str (T w)]) t = some (.tup [.str "", .str (T w)]) := upd_same
    have rd1 := rd.grow sT
    generalize upd H t (.tup [.str "", .str (T w)]) = H1 at sT eT rd1
    have sA2 : stepA w s = if s.top.joint = none ∨ s.top.joint = some z then some { s with top := { s.top with joint := some z }, wants := true } else none := by
      rw [sA, ez]
      cases z with
      | false =>
        cases hj : s.top.joint with
        | none => rw [if_pos ⟨rfl, by simp⟩, if_pos (.inl rfl)]
        | some y => cases y <;> simp [jL]
      | true =>
        rw [if_neg (fun e => absurd e.1 (by decide))]
        cases hj : s.top.joint with
        | none => rw [if_pos ⟨rfl, by simp⟩, if_pos (.inl rfl)]
        | some y => cases y <;> simp
    have jin : inV (.str (jS s.top.joint)) [V.str "", V.str (T w)] = decide (s.top.joint = none ∨ s.top.joint = some z) := by
      rw [ez, ← jK_T]
      cases hj : s.top.joint with
      | none => cases z <;> decide +kernel
      | some y => cases y <;> cases z <;> decide +kernel
    refine ⟨t, [.str "", .str (T w)], rfl, .inr (sqT eT), rfl, rfl, _, rfl, ?_⟩
    show if (if true = true then !inV (.str (jS s.top.joint)) [V.str "", V.str (T w)] else _) = true then _ else _
    rw [if_pos rfl, jin]
    by_cases c3 : s.top.joint = none ∨ s.top.joint = some z
    case neg =>
      rw [decide_eq_false c3]
      exact iteT (q2 (by rw [sA2, if_neg c3]) H1 rd1.same)
    rw [decide_eq_true c3]
    rw [if_pos c3] at sA2
    have eb1 := sT _ _ eb
    have ep1 := sT _ _ ep
    have npb : p ≠ b := fun z => by rw [z, eb] at ep; cases ep
    refine iteF ⟨_, rfl, _, rfl, b, D.Bracket.C, dy, _, rfl, eb1, D.Bracket.cl, nJ, bf_len _ _ _ _, ?_⟩
    rw [bf_put_joint]
    have rd2 := rd1.setTop (x := { s.top with joint := some z }) (H1 := upd H1 b (.ins D.Bracket.C dy (bf (.ref p) (.int (s.top.dep : Nat)) (.str (T w)) (.int (s.top.nots : Nat))))) (fun a o na _ e => by rw [upd_ne na]; exact e)
      ⟨dy, vs2, by rw [upd_same, ez, ← jK_T]; rfl, by rw [upd_ne npb]; exact ep1, parts_tup (fun a xs e => by rw [upd_ne (fun z => by rw [z, eb1] at e; cases e)]; exact e) (parts_tup (Same.tup sT) hd)⟩
    refine ⟨_, rfl, R, D.Reader.C, dx, _, rfl, rd2.ob, D.Reader.cl, nW, rf_len _ _ _, ?_⟩
    rw [rf_put_wants]
    exact q1 _ sA2 _ _ (rd2.setF s.edge true)
theorem ok_read {k : Nat} (D : Pr P K mg) : FnOk P w K mg base CX0 (k + 4) D.Reader_read.f D.Reader_read.fd ["self", "word"] (spStep D.Reader.C D.Bracket.C (fun _ => True) step) := by
  have G_Reader_read_edge_name : FnOk P w K mg base CX0 (k + 3) D.Reader_read_edge_name.f D.Reader_read_edge_name.fd ["self", "word"] (spStep D.Reader.C D.Bracket.C (fun s => s.edge ≠ none) stepE) := ok_edge_name D
  have G_Reader_read_beginning : FnOk P w K mg base CX0 (k + 3) D.Reader_read_beginning.f D.Reader_read_beginning.fd ["self", "word"] (spStep D.Reader.C D.Bracket.C (fun s => s.edge = none ∧ s.wants = true) stepB) := ok_beg D
  have G_Reader_read_behind : FnOk P w K mg base CX0 (k + 3) D.Reader_read_behind.f D.Reader_read_behind.fd ["self", "word"] (spStep D.Reader.C D.Bracket.C (fun s => s.edge = none ∧ s.wants = false) stepA) := ok_behind D
  refine D.Reader_read.F.ok sc_Reader_read (fun vs H Q E h => ?_) (fun cdv A outer s H vs Q E hr h => ?_)
  · obtain ⟨H0, R, L, dx, bs, s, w, rfl, _⟩ := h
    rfl
  · obtain ⟨H0, R, L, dx, bs, s, w, rfl, rd, -, bd, gd, hw, q1, q2⟩ := h
    have nE : NoAttr K D.Reader.C "edge" := D.Reader.nf _ (by simp)
    have nW : NoAttr K D.Reader.C "wants" := D.Reader.nf _ (by simp)
    have no : ∀ m : Str, ¬ m = "brackets" → ¬ m = "edge" → ¬ m = "wants" → (rf (.ref L) (.str (eS s.edge)) (.bl s.wants)).lookup m = none := fun m h1 h2 h3 => rf_no _ _ _ h1 h2 h3
    refine ⟨_, (pss_cons (ps_if (pt_cmpR op_ne (pe_fld (pv 0) rfl) pe_str (nomark _)) (pss_one (ps_ret (pe_meth (pv 0) D.Reader.cl D.Reader_read_edge_name.M G_Reader_read_edge_name (hr.mono (by omega)) D.Reader_read_edge_name.b .nil pass0 (pa_cons (pv 1) pa_nil)))) pss_nil)
      (pss_cons (ps_if (pt_val (pe_fld (pv 0) rfl)) (pss_one (ps_ret (pe_meth (pv 0) D.Reader.cl D.Reader_read_beginning.M G_Reader_read_beginning (hr.mono (by omega)) D.Reader_read_beginning.b .nil pass0 (pa_cons (pv 1) pa_nil)))) pss_nil)
      (pss_one (ps_ret (pe_meth (pv 0) D.Reader.cl D.Reader_read_behind.M G_Reader_read_behind (hr.mono (by omega)) D.Reader_read_behind.b .nil pass0 (pa_cons (pv 1) pa_nil)))))), ?_⟩
    refine ⟨_, rfl, R, D.Reader.C, dx, _, _, rfl, rd.ob, D.Reader.cl, nE, rf_edge _ _ _, rfl, _, rfl, ?_⟩
    cases he : s.edge with
    | some r =>
      refine iteTq (by show (!decide (V.str (eK r) = V.str "")) = true; cases r <;> decide +kernel) ?_
      refine ⟨_, rfl, R, dx, _, rfl, rd.ob, no _ (by decide +kernel) (by decide +kernel) (by decide +kernel), _, rfl, H0, R, L, dx, bs, s, w, rfl, rd, (fun e => by rw [he] at e; cases e), bd, gd, hw, fun s1 e => q1 s1 ?_, fun e => q2 ?_⟩
      · rw [← e]; unfold step stepE; rw [he]
      · rw [← e]; unfold step stepE; rw [he]
    | none =>
      refine iteFq (by show (!decide (V.str "" = V.str "")) = false; rfl) ?_
      refine ⟨_, rfl, R, D.Reader.C, dx, _, _, rfl, rd.ob, D.Reader.cl, nW, rf_wants _ _ _, s.wants, rfl, ?_⟩
      cases hw2 : s.wants with
      | true =>
        refine iteT ⟨_, rfl, R, dx, _, rfl, rd.ob, no _ (by decide +kernel) (by decide +kernel) (by decide +kernel), _, rfl, H0, R, L, dx, bs, s, w, rfl, rd, ⟨he, hw2⟩, bd, gd, hw, fun s1 e => q1 s1 ?_, fun e => q2 ?_⟩
        · rw [← e]; unfold step; rw [he]; simp only; rw [if_pos hw2]
        · rw [← e]; unfold step; rw [he]; simp only; rw [if_pos hw2]
      | false =>
        refine iteF ⟨_, rfl, R, dx, _, rfl, rd.ob, no _ (by decide +kernel) (by decide +kernel) (by decide +kernel), _, rfl, H0, R, L, dx, bs, s, w, rfl, rd, ⟨he, hw2⟩, bd, gd, hw, fun s1 e => q1 s1 ?_, fun e => q2 ?_⟩
        · rw [← e]; unfold step; rw [he]; simp only; rw [if_neg (by rw [hw2]; exact Bool.false_ne_true)]
        · rw [← e]; unfold step; rw [he]; simp only; rw [if_neg (by rw [hw2]; exact Bool.false_ne_true)]
end
end K7

set_option Elab.async false
set_option linter.all false
set_option maxRecDepth 100000
set_option maxHeartbeats 4000000
namespace K7
open PySem PySem.Spec PyProof.Rows L2 GX NdefX
theorem RdS.base {Cr Cb : Addr} {H0 H : Hp} {R L dx p : Addr} {o : HO} {bs : List (Addr × Addr)} {s : Rs} (h : RdS Cr Cb H0 H R L dx bs s) (np : H p = none) : RdS Cr Cb (upd H0 p o) (upd H p o) R L dx bs s := by
  have g := same_upd np (o := o)
  have h1 := h.grow g
  have ne : ∀ {a : Addr} {x : HO}, H a = some x → a ≠ p := fun {a x} e => ne_of_none e np
  refine ⟨fun a x e => ?_, by rw [upd_ne (ne h.ob)]; exact h.nR, by rw [upd_ne (ne h.ls)]; exact h.nL, h1.ob, h1.ls, paired_impm h1.br fun q m x hx => ?_, h.n1, h.n2⟩
  · by_cases q : a = p
    · subst q; rw [upd_same] at e ⊢; exact e
    · rw [upd_ne q] at e ⊢; exact h.same _ _ e
  · obtain ⟨_, _, _, e1, e2⟩ := h.bk m
    exact ⟨⟨by rw [upd_ne (ne e1)]; exact hx.1.1, by rw [upd_ne (ne e2)]; exact hx.1.2⟩, hx.2⟩
def spRdInit (Cr Cb : Addr) : Sp := fun vs H Q _ => ∃ (H0 : Hp) (R dx : Addr), vs = [.ref R] ∧ H R = some (.ins Cr dx []) ∧ (∀ a o, H0 a = some o → a ≠ R ∧ H a = some o) ∧ ∀ H1 L bs, RdS Cr Cb H0 H1 R L dx bs {} → Q .non H1
def spReadF : Sp := fun vs H Q _ => ∃ (x : Str), vs = [.str x] ∧ x.length ≤ 100000 ∧ (parse (wd [] x.cps.toList) = none → ∀ H1, Same H H1 → Q .non H1) ∧
  ∀ f d, parse (wd [] x.cps.toList) = some (f, d) → ∀ a v H1, Same H H1 → H1 a = some (.tup [v, .int (d : Nat)]) → Dh H1 v f.data → Q (.ref a) H1
section
variable {P : Program} {w : World} {K : PySem.W.Frag} {mg : Str → Option Value} {base : Heap}
theorem ok_rd_init {k : Nat} (D : Pr P K mg) : FnOk P w K mg base CX0 (k + 3) D.Reader.f D.Reader.fd ["self"] (spRdInit D.Reader.C D.Bracket.C) := by
  have G_Bracket_init : FnOk P w K mg base CX0 (k + 1) D.Bracket.f D.Bracket.fd ["self"] (spBrInit D.Bracket.C) := ok_br_init D
  refine D.Reader.F.ok sc_Reader_init (fun vs H Q E h => ?_) (fun cdv A outer s H vs Q E hr h => ?_)
  · obtain ⟨H0, R, dx, rfl, _⟩ := h
    rfl
  · obtain ⟨H0, R, dx, rfl, hR, old, q⟩ := h
    refine ⟨_, (pss_cons (ps_fld (pv 0) (pe_lst (pa_cons (pe_make0 D.Bracket.M G_Bracket_init (hr.mono (by omega)) (by rfl) D.Bracket.g D.Bracket.b .nil pass0) pa_nil)) rfl)
      (pss_cons (ps_fld (pv 0) pe_str rfl)
      (pss_one (ps_fld (pv 0) pe_bl rfl)))), ?_⟩
    intro b dz nb nz nzb
    refine ⟨b, dz, rfl, upd_same, fun H1 p k1 np hb => ⟨rfl, by show 1 ≤ sizeLine; decide, fun L nL => ?_⟩⟩
    have npb : p ≠ b := fun e => by rw [e, upd_same] at np; cases np
    have npz : p ≠ dz := fun e => by rw [e, upd_ne nzb, upd_same] at np; cases np
    have np0 : H p = none := by rw [upd_ne npb, upd_ne npz] at np; exact np
    have kk : ∀ a o, H a = some o → H1 a = some o := fun a o e => k1 a o (ne_of_none e nb) (by rw [upd_ne (ne_of_none e nb), upd_ne (ne_of_none e nz)]; exact e)
    have hR1 := kk _ _ hR
    obtain ⟨dy, vs2, eb, ep, _⟩ := id hb
    have nLR : L ≠ R := fun e => by rw [e, hR1] at nL; cases nL
    have nLb : L ≠ b := fun e => by rw [e, eb] at nL; cases nL
    have nLp : L ≠ p := fun e => by rw [e, ep] at nL; cases nL
    have nRb : R ≠ b := fun e => by rw [e, nb] at hR; cases hR
    have nRp : R ≠ p := fun e => by rw [e, np0] at hR; cases hR
    refine ⟨_, rfl, R, D.Reader.C, dx, [], rfl, by rw [upd_ne (Ne.symm nLR)]; exact hR1, D.Reader.cl, D.Reader.nf _ (by simp), by show 0 < 1000; decide, ?_⟩
    refine ⟨_, rfl, R, D.Reader.C, dx, _, rfl, upd_same, D.Reader.cl, D.Reader.nf _ (by simp), by show 1 < 1000; decide, ?_⟩
    refine ⟨_, rfl, R, D.Reader.C, dx, _, rfl, upd_same, D.Reader.cl, D.Reader.nf _ (by simp), by show 2 < 1000; decide, ?_⟩
    have fr : ∀ a, H a = none → H0 a = none := fun a n => by
      cases e : H0 a with
      | none => rfl
      | some o => have := (old a o e).2; rw [n] at this; cases this
    have nL0 : H L = none := by
      cases e : H L with
      | none => rfl
      | some o => have := kk _ _ e; rw [nL] at this; cases this
    have nR0 : H0 R = none := by
      cases e : H0 R with
      | none => rfl
      | some o => exact absurd rfl (old R o e).1
    refine q _ L [(b, p)] ⟨fun a o e => ?_, nR0, fr L nL0, upd_same, by rw [upd_ne nLR, upd_ne nLR, upd_ne nLR, upd_same]; rfl, .cons ⟨⟨fr b nb, fr p np0⟩, hb.keep (fun o e => ?_) (fun o e => ?_) fun a xs e => ?_⟩ .nil, by simp [nRb], by simp [nLp]⟩
    · have na := (old a o e).1
      have ha := kk _ _ (old a o e).2
      rw [upd_ne na, upd_ne na, upd_ne na, upd_ne (ne_of_none ha nL)]; exact ha
    · rw [upd_ne (Ne.symm nRb), upd_ne (Ne.symm nRb), upd_ne (Ne.symm nRb), upd_ne (Ne.symm nLb)]; exact e
    · rw [upd_ne (Ne.symm nRp), upd_ne (Ne.symm nRp), upd_ne (Ne.symm nRp), upd_ne (Ne.symm nLp)]; exact e
    · have na : a ≠ R := fun z => by rw [z, hR1] at e; cases e
      rw [upd_ne na, upd_ne na, upd_ne na, upd_ne (ne_of_none e nL)]; exact e
end
end K7

set_option Elab.async false
set_option linter.all false
set_option maxRecDepth 100000
set_option maxHeartbeats 4000000
namespace K7
open PySem PySem.Spec PyProof.Rows L2 GX NdefX
open CwR
def wordsOf (x : Str) : List Str := Txt.split (Txt.replace (Txt.replace x "(" " ( ") ")" " ) ") " "
theorem words_of (x : Str) : ((wordsOf x).map fun p => p.cps.toList).filter (fun w => decide (w ≠ [])) = wd [] x.cps.toList := by
  have e1 : (Str.ofString " " : Str) = ⟨#[32]⟩ := by decide +kernel
  unfold wordsOf
  rw [e1, split_txt, StrLaws.replace_list (by decide +kernel), StrLaws.replace_list (by decide +kernel)]
  rw [show (Str.ofString "(").cps.toList = [40] by decide +kernel, show (Str.ofString " ( ").cps.toList = [32, 40, 32] by decide +kernel, show (Str.ofString ")").cps.toList = [41] by decide +kernel, show (Str.ofString " ) ").cps.toList = [32, 41, 32] by decide +kernel, two_repl, words_split]
theorem gap_len (l : List Nat) : (l.flatMap gap).length ≤ 3 * l.length := by
  induction l with
  | nil => simp
  | cons c r ih =>
    rw [List.flatMap_cons, List.length_append, List.length_cons]
    have : (gap c).length ≤ 3 := by
      unfold gap
      split
      · simp
      · split <;> simp
    omega
theorem repl_len (x : Str) : (Txt.replace (Txt.replace x "(" " ( ") ")" " ) ").length ≤ 3 * x.length ∧ (Txt.replace x "(" " ( ").length ≤ 3 * x.length := by
  have h2 : (Txt.replace (Txt.replace x "(" " ( ") ")" " ) ").cps.toList = x.cps.toList.flatMap gap := by
    rw [StrLaws.replace_list (by decide +kernel), StrLaws.replace_list (by decide +kernel)]
    rw [show (Str.ofString "(").cps.toList = [40] by decide +kernel, show (Str.ofString " ( ").cps.toList = [32, 40, 32] by decide +kernel, show (Str.ofString ")").cps.toList = [41] by decide +kernel, show (Str.ofString " ) ").cps.toList = [32, 41, 32] by decide +kernel, two_repl]
  have h1 : (Txt.replace x "(" " ( ").cps.toList = x.cps.toList.flatMap fun c => if c = 40 then [32, 40, 32] else [c] := by
    rw [StrLaws.replace_list (by decide +kernel), show (Str.ofString "(").cps.toList = [40] by decide +kernel, show (Str.ofString " ( ").cps.toList = [32, 40, 32] by decide +kernel, repl_one]
  constructor
  · have := gap_len x.cps.toList
    rw [← h2, Array.length_toList, Array.length_toList] at this
    exact this
  · have : ∀ l : List Nat, (l.flatMap fun c => if c = 40 then [32, 40, 32] else [c]).length ≤ 3 * l.length := fun l => by
      induction l with
      | nil => simp
      | cons c r ih =>
        rw [List.flatMap_cons, List.length_append, List.length_cons]
        have : (if c = 40 then [32, 40, 32] else [c]).length ≤ 3 := by split <;> simp
        omega
    have := this x.cps.toList
    rw [← h1, Array.length_toList, Array.length_toList] at this
    exact this
theorem runs_none {a : List (List Nat)} {b : List (List Nat)} {s : Rs} (h : runs a s = none) : runs (a ++ b) s = none := by rw [runs_app, h]; rfl
def keepW (ys : List Str) : List (List Nat) := (ys.map fun p => p.cps.toList).filter fun w => decide (w ≠ [])
theorem keepW_app (a b : List Str) : keepW (a ++ b) = keepW a ++ keepW b := by simp [keepW]
theorem keepW_one (y : Str) : keepW [y] = if y.cps.toList = [] then [] else [y.cps.toList] := by
  unfold keepW
  by_cases h : y.cps.toList = [] <;> simp [h]
section
variable {P : Program} {w : World} {K : PySem.W.Frag} {mg : Str → Option Value} {base : Heap}
theorem sc_free : ∀ y ∈ (defScope s_read_formula).names, y.2 ≠ .cell := by decide +kernel
theorem ok_readf {k : Nat} (D : Pr P K mg) : FnOk P w K mg base CX0 (k + 5) D.read_formula.f D.read_formula.fd ["text"] spReadF := by
  have G_Reader_init : FnOk P w K mg base CX0 (k + 3) D.Reader.f D.Reader.fd ["self"] (spRdInit D.Reader.C D.Bracket.C) := ok_rd_init D
  have G_Reader_read : FnOk P w K mg base CX0 (k + 4) D.Reader_read.f D.Reader_read.fd ["self", "word"] (spStep D.Reader.C D.Bracket.C (fun _ => True) step) := ok_read D
  have G_Bracket_whole : FnOk P w K mg base CX0 (k + 1) D.Bracket_whole.f D.Bracket_whole.fd ["self"] (spWhole2 D.Bracket.C) := ok_whole2 D
  obtain ⟨oc, od, kV, doc, pm, an, cdv, ct, osl, efd, lk, hcd⟩ := D.read_formula.F.ex
  rw [efd]
  rw [efd] at lk
  refine fn_ofT lk hcd sc_read_formula sc_free (by decide) (fun vs H Q E h => ?_) (fun A outer s H vs Q E hr h => ?_)
  · obtain ⟨x, rfl, _⟩ := h
    rfl
  · obtain ⟨x, rfl, hx, q1, q2⟩ := h
    refine ⟨_, psst_cons (PST.of (ps_set (i := 1) sc_read_formula.nd rfl (.inl rfl) (pe_make0 D.Reader.M G_Reader_init (hr.mono (by omega)) (by rfl) D.Reader.g D.Reader.b .nil pass0)))
      (psst_cons (pst_for (by passes_own) rfl (pit_list (RG.pet_split (pet_replT (pet_replC (pv 0))) pe_str)) (pg_name (i := 2) sc_read_formula.nd rfl (.inl rfl))
        (pss_one (ps_if (PW.pt (pw_and (pt_cmpR op_ne (pv 2) pe_str (nomark _)) (pw_and1 (pt_not (pt_val (pe_meth (pv 1) D.Reader.cl D.Reader_read.M G_Reader_read (hr.mono (by omega)) D.Reader_read.b .nil pass0 (pa_cons (pv 2) pa_nil))))))) (pss_one (ps_ret pe_non)) pss_nil)))
      (psst_cons (PST.of (ps_if (PW.pt (pw_or (pt_val (pe_fld (pv 1) rfl)) (pw_or1 (pt_cmpR op_gt (pe_callB call_len (by rfl) D.B.len PySem.boot_len (pa_cons (pe_fld (pv 1) rfl) pa_nil)) pe_int (nomark _))))) (pss_one (ps_ret pe_non)) pss_nil))
      (psst_one (PST.of (ps_ret (pe_meth0 (pe_ix (r := rIxL K) ix_list (pe_fld (pv 1) rfl) pe_int (fun _ _ => rfl)) D.Bracket.cl D.Bracket_whole.M G_Bracket_whole (hr.mono (by omega)) D.Bracket_whole.b .nil pass0)))))), ?_⟩
    intro R dz nR nz nzR
    refine ⟨H, R, dz, rfl, upd_same, fun a o e => ⟨ne_of_none e nR, by rw [upd_ne (ne_of_none e nR), upd_ne (ne_of_none e nz)]; exact e⟩, fun H1 L bs rd => ⟨rfl, ?_⟩⟩
    have rl := repl_len x
    have lz : (Str.ofString " ( ").length = 3 := by decide +kernel
    have lz2 : (Str.ofString " ) ").length = 3 := by decide +kernel
    refine ⟨.str x, rfl, x, rfl, by rw [lz]; omega, _, rfl, by rw [lz2]; omega, ⟨_, rfl⟩, _, _, rfl, rfl, by decide +kernel, by rw [sizeLine_eq]; omega, fun p np => ?_⟩
    have rd1 := rd.base np (o := .lst ((wordsOf x).map V.str))
    have ep : upd H p (.lst ((wordsOf x).map V.str)) p = some (.lst ((wordsOf x).map V.str)) := upd_same
    have ep1 : upd H1 p (.lst ((wordsOf x).map V.str)) p = some (.lst ((wordsOf x).map V.str)) := upd_same
    have sH : Same H (upd H p (.lst ((wordsOf x).map V.str))) := same_upd (none_of_same rd.same np)
    have wl : (wordsOf x).length ≤ 300002 := by
      have := PyProof.Rows.split_le (Txt.replace (Txt.replace x "(" " ( ") ")" " ) ") " "
      unfold wordsOf
      omega
    have wz : ∀ y ∈ wordsOf x, y.length ≤ 300001 := fun y m => by
      have h1 := PyProof.Rows.split_weight (Txt.replace (Txt.replace x "(" " ( ") ")" " ) ") " " (by decide +kernel)
      have h2 : y.length ≤ ((wordsOf x).map fun z => z.length).sum := by
        obtain ⟨l1, l2, e⟩ := List.append_of_mem m
        rw [e]; simp; omega
      unfold wordsOf at h2
      omega
    generalize upd H p (.lst ((wordsOf x).map V.str)) = B1 at rd1 ep sH
    have wo := words_of x
    refine ⟨p, rfl, ⟨_, sqL ep1⟩, forLs (D := { nx := _, rt := Q }) (xs := (wordsOf x).map V.str) (fun j σ H' => ∃ s bs c2, σ = [some (.str x), some (.ref R), c2] ∧ RdS D.Reader.C D.Bracket.C B1 H' R L dz bs s ∧ runs (keepW ((wordsOf x).take j)) {} = some s ∧ Bd j s ∧ Good s) ep1
      ⟨{}, bs, none, rfl, rd1, rfl, ⟨fun y m => by simp [Rs.stk] at m; subst m; exact ⟨Nat.zero_le _, Nat.zero_le _⟩, Nat.zero_le _⟩, fun z => by cases z⟩ (fun j σ H' z => by obtain ⟨_, _, _, _, r, _⟩ := z; exact r.same _ _ ep) ?_ ?_⟩
    · rintro j y σ H3 hy ⟨s, bs, c2, rfl, rd3, rn, bd, gd⟩
      rw [List.getElem?_map] at hy
      cases hw : (wordsOf x)[j]? with
      | none => rw [hw] at hy; cases hy
      | some z =>
      rw [hw] at hy
      cases hy
      have tk : (wordsOf x).take (j + 1) = (wordsOf x).take j ++ [z] := take_succ_of hw
      have jl : j < (wordsOf x).length := (List.getElem?_eq_some_iff.mp hw).1
      have zl := wz z (List.mem_of_getElem? hw)
      refine ⟨.str z, rfl, rfl, _, rfl, ?_⟩
      show if (!decide (V.str z = V.str (Str.ofString ""))) = true then _ else _
      rw [show (Str.ofString "" : Str) = T [] by decide +kernel, ← T_of z, tEq z.cps.toList _ [] rfl]
      by_cases ez : z.cps.toList = []
      · rw [decide_eq_true ez]
        refine iteF ⟨s, bs, _, rfl, rd3, ?_, ⟨fun y m => by have := bd.all y m; omega, by have := bd.len; omega⟩, gd⟩
        rw [tk, keepW_app, keepW_one, if_pos ez, List.append_nil]; exact rn
      rw [decide_eq_false ez]
      have kw : keepW ((wordsOf x).take (j + 1)) = keepW ((wordsOf x).take j) ++ [z.cps.toList] := by rw [tk, keepW_app, keepW_one, if_neg ez]
      refine iteT ⟨_, rfl, R, dz, _, rfl, rd3.ob, rf_no _ _ _ (by decide +kernel) (by decide +kernel) (by decide +kernel), _, rfl, B1, R, L, dz, bs, s, z.cps.toList, by rw [T_of]; rfl, rd3, trivial, ⟨fun y m => by have := bd.all y m; omega, by have := bd.len; omega⟩, gd, by rw [Array.length_toList]; have : z.length = z.cps.size := rfl; omega, fun s1 e H4 bs1 rd4 => ⟨true, rfl, iteF ?_⟩, fun e H4 s4 => ⟨false, rfl, iteT ?_⟩⟩
      · obtain ⟨b1, b2⟩ := step_bd bd gd e
        refine ⟨s1, bs1, some (.str z), rfl, rd4, ?_, b1, b2⟩
        rw [kw, runs_app, rn]
        show (step z.cps.toList s).bind (runs []) = _
        rw [e]; rfl
      · refine q1 ?_ H4 (sH.trans s4)
        unfold parse
        rw [← wo]
        have all : (wordsOf x) = (wordsOf x).take (j + 1) ++ (wordsOf x).drop (j + 1) := (List.take_append_drop _ _).symm
        have e2 : runs (keepW ((wordsOf x).take (j + 1))) {} = none := by
          rw [kw, runs_app, rn]
          show (step z.cps.toList s).bind (runs []) = _
          rw [e]; rfl
        have : runs (keepW (wordsOf x)) {} = none := by
          rw [all, keepW_app]; exact runs_none e2
        show (runs (keepW (wordsOf x)) {}).bind final = none
        rw [this]; rfl
    · rintro σ H3 ⟨s, bs, c2, rfl, rd3, rn, bd, gd⟩
      rw [List.length_map, List.take_length] at rn
      have nB : NoAttr K D.Reader.C "brackets" := D.Reader.nf _ (by simp)
      have nW : NoAttr K D.Reader.C "wants" := D.Reader.nf _ (by simp)
      have ps : parse (wd [] x.cps.toList) = final s := by
        unfold parse
        rw [← wo]
        show (runs (keepW (wordsOf x)) {}).bind final = _
        rw [rn]; rfl
      have sH3 := sH.trans rd3.same
      have lb : (bs.map fun q : Addr × Addr => V.ref q.1).length = s.rest.length + 1 := by
        rw [List.length_map, rd3.br.length]
        simp [Rs.stk]
      refine ⟨_, rfl, R, D.Reader.C, dz, _, _, rfl, rd3.ob, D.Reader.cl, nW, rf_wants _ _ _, s.wants, rfl, ?_⟩
      cases hw2 : s.wants with
      | true => exact iteT (iteT (q1 (by rw [ps]; unfold final; rw [if_pos (.inl hw2)]) H3 sH3))
      | false =>
        refine iteF ⟨_, rfl, R, D.Reader.C, dz, _, _, rfl, rd3.ob, D.Reader.cl, nB, rf_brackets _ _ _, .ref L, s.rest.length + 1, rfl, lenV_sq (.inl rd3.ls) lb, _, 1, rfl, rfl, _, rfl, ?_⟩
        show if decide ((1 : Int) < ((s.rest.length + 1 : Nat) : Int)) = true then _ else _
        cases hr2 : s.rest with
        | cons y r =>
          rw [decide_eq_true (by simp only [List.length_cons]; omega)]
          exact iteT (q1 (by rw [ps]; unfold final; rw [if_pos (.inr (.inl (by rw [hr2]; simp)))]) H3 sH3)
        | nil =>
          rw [decide_eq_false (by simp)]
          obtain ⟨bs0, b, p2, rfl, hb⟩ := rd3.last
          have b0 : bs0 = [] := by
            rw [List.length_map, List.length_append, hr2] at lb
            simp at lb
            exact lb
          subst b0
          have ls := rd3.ls
          obtain ⟨dy, vs2, eb, _, _⟩ := id hb
          refine iteF ⟨_, rfl, R, D.Reader.C, dz, _, _, rfl, rd3.ob, D.Reader.cl, nB, rf_brackets _ _ _, L, _, 0, .ref b, rfl, rfl, sqL ls, atI_nat (j := 0) rfl, b, dy, _, rfl, eb, bf_no _ _ _ _ (by decide +kernel) (by decide +kernel) (by decide +kernel) (by decide +kernel), b, p2, s.top, rfl, hb, gd hw2, fun a v H4 s4 ea hv => ?_⟩
          refine q2 _ _ ?_ a v H4 (sH3.trans s4) ea hv
          rw [ps]
          unfold final
          rw [if_neg (by rw [hw2, hr2]; simp)]
end
end K7

set_option Elab.async false
set_option linter.all false
set_option maxRecDepth 100000
set_option maxHeartbeats 4000000
namespace K7
open PySem PySem.Spec PyProof.Rows L2 GX NdefX
def spFrom (C : Addr) : Sp := fun vs H Q E => ∃ (v : V) (d : PyData), vs = [v] ∧ Dh H v d ∧ (isStrD d = false → Rai E C H [("line", .int 0)]) ∧ ∀ x, d = .str x → x.length ≤ 100000 ∧ (parse (wd [] x.cps.toList) = none → Rai E C H [("line", .int 1)]) ∧
  ∀ f n, parse (wd [] x.cps.toList) = some (f, n) → (40 < n → Rai E C H [("line", .int 1)]) ∧ (n ≤ 40 → ∀ u H1, Same H H1 → Dh H1 u f.data → Q u H1)
theorem line01 (i : Int) (h : i = 0 ∨ i = 1) : i.natAbs.log2 < 1920 ∧ (Str.ofString (toString i)).length ≤ 100 := by
  rcases h with rfl | rfl <;> exact ⟨by decide, by decide +kernel⟩
section
variable {P : Program} {w : World} {K : PySem.W.Frag} {mg : Str → Option Value} {base : Heap}
theorem ok_from {k : Nat} (D : Pr P K mg) : FnOk P w K mg base (CX P w) (k + 6) D.formula_from.f D.formula_from.fd ["text"] (spFrom D.BadText.C) := by
  have G_read_formula : FnOk P w K mg base CX0 (k + 5) D.read_formula.f D.read_formula.fd ["text"] spReadF := ok_readf D
  have GX_BadText : FnOk P w K mg base CX0 (k + 1) D.BadText.f D.BadText.fd ["self", "line"] (spLine D.BadText.C) := ok_badt D
  have GX_BadFormula : FnOk P w K mg base CX0 (k + 1) D.BadFormula.f D.BadFormula.fd ["self"] (spShape D.BadFormula.C) := ok_badf D
  obtain ⟨tD, m_DEEPEST⟩ := D.k_DEEPEST
  refine D.formula_from.F.okX sc_formula_from (fun vs H Q E h => ?_) (fun cdv A outer s H vs Q E hr h => ?_)
  · obtain ⟨v, d, rfl, _⟩ := h
    rfl
  · obtain ⟨v, d, rfl, hd, q1, q2⟩ := h
    refine ⟨_, (pss_cons (ps_if (pt_not (pt_val (pe_callB call_isi (by rfl) D.B.isinstance (by decide +kernel) (pa_cons (pv 0) (pa_cons (pe_bltn (v := .ty "str") (u := .type "str") (by rfl) D.B.str (by decide +kernel) rfl) pa_nil))))) (pss_one (ps_raise rfl (takes_of rfl rfl rfl rfl) (pmk_oex D.BadText.T.O D.BadText.T.iC D.BadText.T.tI GX_BadText (hr.mono (by omega)) D.BadText.b .nil pass0 (by rfl) D.BadText.g (pa_cons pe_int pa_nil)))) pss_nil)
      (pss_cons (ps_set (i := 1) sc_formula_from.nd rfl (.inl rfl) (pe_call G_read_formula (hr.mono (by omega)) (by rfl) D.read_formula.g D.read_formula.F.kp D.read_formula.b .nil pass0 (pa_cons (pv 0) pa_nil)))
      (pss_cons (ps_if (pt_cmpR op_isN (pv 1) pe_non (nomark _)) (pss_one (ps_raise rfl (takes_of rfl rfl rfl rfl) (pmk_oex D.BadText.T.O D.BadText.T.iC D.BadText.T.tI GX_BadText (hr.mono (by omega)) D.BadText.b .nil pass0 (by rfl) D.BadText.g (pa_cons pe_int pa_nil)))) pss_nil)
      (pss_cons (ps_asg (pv 1) (pg_tup rfl (pgs_cons (pg_name (i := 2) sc_formula_from.nd rfl (.inl rfl)) (pgs_cons (pg_name (i := 3) sc_formula_from.nd rfl (.inl rfl)) pgs_nil))))
      (pss_cons (ps_if (pt_cmpR op_gt (pv 3) (pe_glob (v := .int 40) (by rfl) m_DEEPEST ⟨_, rfl⟩) (nomark _)) (pss_one (ps_raiseF rfl rfl (takes_of rfl rfl rfl rfl) (pmk_oex6 D.BadText.T.O D.BadText.T.iC D.BadText.T.tI GX_BadText (hr.mono (by omega)) D.BadText.b .nil pass0 (by rfl) D.BadText.g (pa_cons pe_int pa_nil)) (pmk_oex0 D.BadFormula.T.O D.BadFormula.T.iC D.BadFormula.T.tI GX_BadFormula (hr.mono (by omega)) D.BadFormula.b pass0 (by rfl) D.BadFormula.g))) pss_nil)
      (pss_one (ps_ret (pv 2)))))))), ?_⟩
    refine ⟨_, rfl, _, _, .type (tyN d), _, isStrD d, rfl, .ty "str", hd.ty, kit_str hd, isStrD d, rfl, ?_⟩
    cases e : isStrD d with
    | false => exact iteT (mkO_line (line01 0 (.inl rfl)) (q1 e) (Same.refl _))
    | true =>
    obtain ⟨x, rfl⟩ : ∃ x, d = .str x := by cases d <;> first | exact ⟨_, rfl⟩ | cases e
    cases hd
    obtain ⟨hx, r1, r2⟩ := q2 x rfl
    refine iteF ⟨.str x, rfl, x, rfl, hx, fun en H1 s1 => ?_, fun f n ep a u H1 s1 ea hu => ?_⟩
    · refine ⟨.non, rfl, rfl, true, rfl, iteT (mkO_line (line01 1 (.inr rfl)) (r1 en) s1)⟩
    · obtain ⟨t1, t2⟩ := r2 f n ep
      refine ⟨.ref a, rfl, rfl, false, rfl, iteF ⟨.ref a, rfl, a, _, rfl, sqT ea, rfl, u, _, rfl, _, [], rfl, rfl, ?_⟩⟩
      refine ⟨_, rfl, (n : Nat), 40, rfl, rfl, _, rfl, ?_⟩
      show if decide ((40 : Int) < (n : Int)) = true then _ else _
      by_cases hn : 40 < n
      · rw [decide_eq_true (by omega)]
        refine iteT (mkO_line (R := fun dd H2 => ∀ a, H2 a = none → spShape D.BadFormula.C [.ref a] (upd H2 a (exo a D.BadFormula.C none)) (fun v H3 => v = .non ∧ H3 a = some (exo a D.BadFormula.C none) ∧ E (.ref D.BadText.C) (some dd) (del H3 a)) fun _ _ _ => False) (line01 1 (.inr rfl)) (fun dd H2 s2 e2 => ?_) s1)
        exact mkO_badf (E := fun _ _ H3 => E (.ref D.BadText.C) (some dd) H3) (fun H3 s3 => t1 hn dd H3 (s2.trans s3) (s3 _ _ e2)) (Same.refl _)
      · rw [decide_eq_false (by omega)]
        exact iteF ⟨_, rfl, t2 (by omega) u H1 s1 hu⟩
end
end K7

set_option Elab.async false
set_option linter.all false
set_option maxRecDepth 100000
set_option maxHeartbeats 4000000
namespace K7
open PySem PySem.Spec PyProof.Rows L2 GX NdefX
def spLNums (K : PySem.W.Frag) : Sp := fun vs H Q _ => ∃ (a : Addr) (ns : List Int), vs = [.ref a] ∧ SqL K H a (ns.map V.int) ∧ ns.length ≤ 63 ∧
  ∀ D H' l, Same H H' → H D = none → H' D = some (.lst (nts l)) → l.length ≤ 4000 → Q (.ref D) H'
section
variable {P : Program} {w : World} {K : PySem.W.Frag} {mg : Str → Option Value} {base : Heap}
theorem ok_lnums {f : Addr} {fd : FuncData} {k : Nat} (F : Fun K "_law_numbers" "_law_numbers" s__law_numbers f fd) (B : Bl mg) : FnOk P w K mg base CX0 (k + 1) f fd ["script"] (spLNums K) := by
  refine F.ok sc__law_numbers (fun vs H Q E h => ?_) (fun cdv A outer s H vs Q E hr h => ?_)
  · obtain ⟨a, ns, rfl, _⟩ := h
    rfl
  · obtain ⟨a, ns, rfl, hq, hl, q⟩ := h
    refine ⟨_, pss_cons (ps_set (i := 1) sc__law_numbers.nd rfl (.inl rfl) (pe_lst pa_nil))
      (pss_cons (ps_for PassesOwn.never rfl (pi_range1 (by rfl) B.range (pa_cons (pe_callB (call_min2 rfl) (by rfl) B.min (by decide +kernel) (pa_cons (pe_callB call_len (by rfl) B.len PySem.boot_len (pa_cons (pv 0) pa_nil)) (pa_cons pe_int pa_nil))) pa_nil)) (pg_name (i := 2) sc__law_numbers.nd rfl (.inl rfl))
        (pss_cons (ps_set (i := 3) sc__law_numbers.nd rfl (.inl rfl) (pe_callTy call_int1 (by rfl) B.int (by decide +kernel) (pa_cons (pe_ix (r := rIxL K) ix_list (pv 0) (pv 2) (fun _ _ => rfl)) pa_nil)))
        (pss_cons (ps_set (i := 4) sc__law_numbers.nd rfl (.inl rfl) pe_int)
        (pss_cons (ps_if (pt_cmpR op_lt (pv 3) pe_int (nomark _)) (pss_cons (ps_set (i := 3) sc__law_numbers.nd rfl (.inl rfl) (pe_op op_sub pe_int (pv 3))) (pss_one (ps_set (i := 4) sc__law_numbers.nd rfl (.inl rfl) pe_int))) pss_nil)
        (pss_one (ps_if (pt_cmpR op_ge (pv 3) (pe_op op_pow pe_int pe_int) (nomark _))
          (pss_one (ps_for PassesOwn.never rfl (pi_range1 (by rfl) B.range (pa_cons pe_int pa_nil)) (pg_name (i := 5) sc__law_numbers.nd rfl (.inl rfl))
            (pss_one (ps_if (pt_cmpR op_gt (pv 3) pe_int (nomark _))
              (pss_cons (ps_expr (pe_bm PySem.F.plainAttrs_list PySem.F.slot_list_append PySem.F.type_list_append mt_append (pv 1) (pa_cons (pe_op op_modN (pe_callTy call_int1 (by rfl) B.int (by decide +kernel) (pa_cons (pv 3) pa_nil)) pe_int) pa_nil)))
              (pss_one (ps_set (i := 3) sc__law_numbers.nd rfl (.inl rfl) (pe_op op_fdivN (pv 3) pe_int)))) pss_nil))))
          (pss_cons (ps_set (i := 6) sc__law_numbers.nd rfl (.inl rfl) (pe_op op_modN (pe_callTy call_int1 (by rfl) B.int (by decide +kernel) (pa_cons (pe_op op_add (pe_op op_add (pe_op op_add (pe_mul (pv 3) pe_int) (pe_mul (pv 2) pe_int)) (pe_mul (pv 4) pe_int)) pe_int) pa_nil)) pe_int))
          (pss_one (ps_for PassesOwn.never rfl (pi_range1 (by rfl) B.range (pa_cons pe_int pa_nil)) (pg_name (i := 5) sc__law_numbers.nd rfl (.inl rfl))
            (pss_cons (ps_set (i := 6) sc__law_numbers.nd rfl (.inl rfl) (pe_op op_modN (pe_callTy call_int1 (by rfl) B.int (by decide +kernel) (pa_cons (pe_op op_add (pe_op op_add (pe_mul (pv 6) pe_int) (pe_mul (pe_callTy call_int1 (by rfl) B.int (by decide +kernel) (pa_cons (pe_op op_fdivN (pv 6) pe_int) pa_nil)) (pv 5))) pe_int) pa_nil)) pe_int))
            (pss_one (ps_expr (pe_bm PySem.F.plainAttrs_list PySem.F.slot_list_append PySem.F.type_list_append mt_append (pv 1) (pa_cons (pe_op op_modN (pe_callTy call_int1 (by rfl) B.int (by decide +kernel) (pa_cons (pe_op op_fdivN (pv 6) pe_int) pa_nil)) pe_int) pa_nil))))))))))))))
      (pss_cons (ps_expr (pe_bm0 PySem.F.plainAttrs_list PySem.F.slot_list_reverse PySem.F.type_list_reverse mt_reverse (pv 1)))
      (pss_one (ps_ret (pv 1))))), ?_⟩
    refine ⟨Nat.zero_le _, fun D nD => ?_⟩
    refine ⟨.ref a, rfl, .ref a, ns.length, rfl, .inl ⟨_, Same.seq (same_upd nD) hq, by rw [List.length_map]⟩, (ns.length : Int), 63, rfl, ?_⟩
    rw [if_neg (by omega)]
    refine ⟨(ns.length : Int), rfl, by omega, by omega, ?_⟩
    refine for_range (D := { nx := _, rt := Q }) (fun i σ H' => (∃ c2 c3 c4 c5 c6, σ = [some (.ref a), some (.ref D), c2, c3, c4, c5, c6]) ∧ Same H H' ∧ ∃ l, H' D = some (.lst (nts l)) ∧ l.length ≤ 45 * i) ?_ ?_ ?_
    · exact ⟨⟨_, _, _, _, _, rfl⟩, same_upd nD, [], upd_same, Nat.le_refl _⟩
    · rintro i σ H2 hi ⟨⟨c2, c3, c4, c5, c6, rfl⟩, s2, l, e2, hl2⟩
      have hi : i < ns.length := by
        have : i < ((ns.length : Int)).toNat := hi
        omega
      have ei : (0 : Int) + i = i := Int.zero_add _
      refine ⟨.ref a, rfl, _, rfl, a, _, _, .int ns[i], rfl, rfl, Same.seq s2 hq, by rw [ei]; refine atI_nat ?_; rw [List.getElem?_map, List.getElem?_eq_getElem hi]; rfl, .inl ⟨ns[i], rfl, ?_⟩⟩
      refine ⟨_, rfl, ns[i], 0, rfl, rfl, _, rfl, ?_⟩
      generalize ns[i] = n
      by_cases hneg : n < 0
      · rw [decide_eq_true hneg]
        refine iteT ⟨.int n, rfl, 0, n, rfl, rfl, ?_⟩
        have hc : (0 : Int) ≤ 0 - n := by omega
        refine ⟨.int (0 - n), rfl, 10, 18, rfl, rfl, ⟨by decide, by decide, by decide⟩, (0 - n), _, rfl, rfl, _, rfl, ?_⟩
        by_cases hbig : (10 : Int) ^ (18 : Int).toNat ≤ (0 - n)
        · rw [decide_eq_true hbig]
          refine iteT ⟨45, rfl, by decide, by decide, ?_⟩
          refine for_range (D := { nx := _, rt := Q }) (fun j σ H' => (∃ c' c5, σ = [some (.ref a), some (.ref D), some (.int (0 + (i : Int))), some (.int c'), some (.int 1), c5, c6] ∧ 0 ≤ c') ∧ Same H H' ∧ ∃ l, H' D = some (.lst (nts l)) ∧ l.length ≤ 45 * i + j) ?_ ?_ ?_
          · exact ⟨⟨_, _, rfl, hc⟩, s2, l, e2, hl2⟩
          · rintro j σ H3 hj ⟨⟨c', c5, rfl, hc'⟩, s3, l, e3, hl3⟩
            have hj : j < 45 := hj
            refine ⟨.int c', rfl, c', 0, rfl, rfl, _, rfl, ?_⟩
            by_cases hpos : (0 : Int) < c'
            · rw [decide_eq_true hpos]
              refine iteT ⟨.ref D, rfl, .inl ⟨rfl, _, sqL e3⟩, .int c', rfl, .inl ⟨c', rfl, c', 60, rfl, rfl, (by show (60 : Int) ≠ 0; decide), D, _, _, rfl, rfl, e3, by rw [nts_len, sizeLine_eq]; omega, .int c', rfl, c', 60, rfl, rfl, ⟨by decide, by decide⟩, ?_⟩⟩
              have hm := fmod_nn (a := c') (b := 60) hc' (by decide)
              refine ⟨⟨_, _, rfl, (fdiv_nn hc' (by decide)).1⟩, fun b o e => ?_, l ++ [(c'.fmod 60).toNat], ?_, ?_⟩
              · rw [upd_ne (ne_of_none e nD)]
                exact s3 _ _ e
              · rw [upd_same, nts_snoc _ hm.1]
              · rw [List.length_append, List.length_singleton]
                omega
            · rw [decide_eq_false hpos]
              exact iteF ⟨⟨_, _, rfl, hc'⟩, s3, l, e3, by omega⟩
          · rintro σ H3 ⟨⟨c', c5, rfl, hc'⟩, s3, l, e3, hl3⟩
            have hl3 : l.length ≤ 45 * i + 45 := hl3
            exact ⟨⟨_, _, _, _, _, rfl⟩, s3, l, e3, by omega⟩
        · rw [decide_eq_false hbig]
          have hbig : ¬ (1000000000000000000 : Int) ≤ (0 - n) := hbig
          refine iteF ⟨.int (0 - n), rfl, (0 - n), 16807, rfl, rfl, ⟨by omega, by omega⟩, _, rfl, _, 7919, rfl, rfl, ⟨by omega, by omega⟩, _, _, rfl, rfl, .int 1, rfl, 1, 104729, rfl, rfl, ⟨by omega, by omega⟩, _, _, rfl, rfl, _, _, rfl, rfl, .inl ⟨_, rfl, _, 2147483629, rfl, rfl, (by show (2147483629 : Int) ≠ 0; decide), 7, rfl, by decide, by decide, ?_⟩⟩
          have hs := fmod_nn (a := (0 - n) * 16807 + (0 + (i : Int)) * 7919 + 1 * 104729 + 11) (b := 2147483629) (by omega) (by decide)
          refine for_range (D := { nx := _, rt := Q }) (fun j σ H' => (∃ c5 sd, σ = [some (.ref a), some (.ref D), some (.int (0 + (i : Int))), some (.int (0 - n)), some (.int 1), c5, some (.int sd)] ∧ 0 ≤ sd ∧ sd < 2147483629) ∧ Same H H' ∧ ∃ l, H' D = some (.lst (nts l)) ∧ l.length ≤ 45 * i + j) ?_ ?_ ?_
          · exact ⟨⟨_, _, rfl, hs⟩, s2, l, e2, hl2⟩
          · rintro j σ H3 hj ⟨⟨c5, sd, rfl, h0, h1⟩, s3, l, e3, hl3⟩
            have hj : j < 7 := hj
            have hd := fdiv_nn (a := sd) (b := 1000) h0 (by decide)
            refine ⟨.int sd, rfl, sd, 39373, rfl, rfl, ⟨by omega, by omega⟩, .int sd, rfl, sd, 1000, rfl, rfl, ⟨by decide, by decide⟩, .inl ⟨_, rfl, _, rfl, _, _, rfl, rfl, ⟨by omega, by omega⟩, _, _, rfl, rfl, _, _, rfl, rfl, .inl ⟨_, rfl, _, 2147483629, rfl, rfl, (by show (2147483629 : Int) ≠ 0; decide), ?_⟩⟩⟩
            have hp : 0 ≤ sd.fdiv 1000 * (0 + (j : Int)) := Int.mul_nonneg hd.1 (by omega)
            have hs2 := fmod_nn (a := sd * 39373 + sd.fdiv 1000 * (0 + (j : Int)) + 7919) (b := 2147483629) (by omega) (by decide)
            have hd2 := fdiv_nn (a := (sd * 39373 + sd.fdiv 1000 * (0 + (j : Int)) + 7919).fmod 2147483629) (b := 7) hs2.1 (by decide)
            have hm2 := fmod_nn (a := ((sd * 39373 + sd.fdiv 1000 * (0 + (j : Int)) + 7919).fmod 2147483629).fdiv 7) (b := 55440) hd2.1 (by decide)
            refine ⟨.ref D, rfl, .inl ⟨rfl, _, sqL e3⟩, _, rfl, _, 7, rfl, rfl, ⟨by decide, by decide⟩, .inl ⟨_, rfl, _, 55440, rfl, rfl, (by show (55440 : Int) ≠ 0; decide), D, _, _, rfl, rfl, e3, by rw [nts_len, sizeLine_eq]; omega, ?_⟩⟩
            refine ⟨⟨_, _, rfl, hs2⟩, fun b o e => ?_, l ++ [((((sd * 39373 + sd.fdiv 1000 * (0 + (j : Int)) + 7919).fmod 2147483629).fdiv 7).fmod 55440).toNat], ?_, ?_⟩
            · rw [upd_ne (ne_of_none e nD)]
              exact s3 _ _ e
            · rw [upd_same]
              exact congrArg (fun l => some (HO.lst l)) (nts_snoc _ hm2.1)
            · rw [List.length_append, List.length_singleton]
              omega
          · rintro σ H3 ⟨⟨c5, sd, rfl, h0, h1⟩, s3, l, e3, hl3⟩
            have hl3 : l.length ≤ 45 * i + 7 := hl3
            exact ⟨⟨_, _, _, _, _, rfl⟩, s3, l, e3, by omega⟩
      · rw [decide_eq_false hneg]
        refine iteF ?_
        have hc : (0 : Int) ≤ n := by omega
        refine ⟨.int n, rfl, 10, 18, rfl, rfl, ⟨by decide, by decide, by decide⟩, n, _, rfl, rfl, _, rfl, ?_⟩
        by_cases hbig : (10 : Int) ^ (18 : Int).toNat ≤ n
        · rw [decide_eq_true hbig]
          refine iteT ⟨45, rfl, by decide, by decide, ?_⟩
          refine for_range (D := { nx := _, rt := Q }) (fun j σ H' => (∃ c' c5, σ = [some (.ref a), some (.ref D), some (.int (0 + (i : Int))), some (.int c'), some (.int 0), c5, c6] ∧ 0 ≤ c') ∧ Same H H' ∧ ∃ l, H' D = some (.lst (nts l)) ∧ l.length ≤ 45 * i + j) ?_ ?_ ?_
          · exact ⟨⟨_, _, rfl, hc⟩, s2, l, e2, hl2⟩
          · rintro j σ H3 hj ⟨⟨c', c5, rfl, hc'⟩, s3, l, e3, hl3⟩
            have hj : j < 45 := hj
            refine ⟨.int c', rfl, c', 0, rfl, rfl, _, rfl, ?_⟩
            by_cases hpos : (0 : Int) < c'
            · rw [decide_eq_true hpos]
              refine iteT ⟨.ref D, rfl, .inl ⟨rfl, _, sqL e3⟩, .int c', rfl, .inl ⟨c', rfl, c', 60, rfl, rfl, (by show (60 : Int) ≠ 0; decide), D, _, _, rfl, rfl, e3, by rw [nts_len, sizeLine_eq]; omega, .int c', rfl, c', 60, rfl, rfl, ⟨by decide, by decide⟩, ?_⟩⟩
              have hm := fmod_nn (a := c') (b := 60) hc' (by decide)
              refine ⟨⟨_, _, rfl, (fdiv_nn hc' (by decide)).1⟩, fun b o e => ?_, l ++ [(c'.fmod 60).toNat], ?_, ?_⟩
              · rw [upd_ne (ne_of_none e nD)]
                exact s3 _ _ e
              · rw [upd_same, nts_snoc _ hm.1]
              · rw [List.length_append, List.length_singleton]
                omega
            · rw [decide_eq_false hpos]
              exact iteF ⟨⟨_, _, rfl, hc'⟩, s3, l, e3, by omega⟩
          · rintro σ H3 ⟨⟨c', c5, rfl, hc'⟩, s3, l, e3, hl3⟩
            have hl3 : l.length ≤ 45 * i + 45 := hl3
            exact ⟨⟨_, _, _, _, _, rfl⟩, s3, l, e3, by omega⟩
        · rw [decide_eq_false hbig]
          have hbig : ¬ (1000000000000000000 : Int) ≤ n := hbig
          refine iteF ⟨.int n, rfl, n, 16807, rfl, rfl, ⟨by omega, by omega⟩, _, rfl, _, 7919, rfl, rfl, ⟨by omega, by omega⟩, _, _, rfl, rfl, .int 0, rfl, 0, 104729, rfl, rfl, ⟨by omega, by omega⟩, _, _, rfl, rfl, _, _, rfl, rfl, .inl ⟨_, rfl, _, 2147483629, rfl, rfl, (by show (2147483629 : Int) ≠ 0; decide), 7, rfl, by decide, by decide, ?_⟩⟩
          have hs := fmod_nn (a := n * 16807 + (0 + (i : Int)) * 7919 + 0 * 104729 + 11) (b := 2147483629) (by omega) (by decide)
          refine for_range (D := { nx := _, rt := Q }) (fun j σ H' => (∃ c5 sd, σ = [some (.ref a), some (.ref D), some (.int (0 + (i : Int))), some (.int n), some (.int 0), c5, some (.int sd)] ∧ 0 ≤ sd ∧ sd < 2147483629) ∧ Same H H' ∧ ∃ l, H' D = some (.lst (nts l)) ∧ l.length ≤ 45 * i + j) ?_ ?_ ?_
          · exact ⟨⟨_, _, rfl, hs⟩, s2, l, e2, hl2⟩
          · rintro j σ H3 hj ⟨⟨c5, sd, rfl, h0, h1⟩, s3, l, e3, hl3⟩
            have hj : j < 7 := hj
            have hd := fdiv_nn (a := sd) (b := 1000) h0 (by decide)
            refine ⟨.int sd, rfl, sd, 39373, rfl, rfl, ⟨by omega, by omega⟩, .int sd, rfl, sd, 1000, rfl, rfl, ⟨by decide, by decide⟩, .inl ⟨_, rfl, _, rfl, _, _, rfl, rfl, ⟨by omega, by omega⟩, _, _, rfl, rfl, _, _, rfl, rfl, .inl ⟨_, rfl, _, 2147483629, rfl, rfl, (by show (2147483629 : Int) ≠ 0; decide), ?_⟩⟩⟩
            have hp : 0 ≤ sd.fdiv 1000 * (0 + (j : Int)) := Int.mul_nonneg hd.1 (by omega)
            have hs2 := fmod_nn (a := sd * 39373 + sd.fdiv 1000 * (0 + (j : Int)) + 7919) (b := 2147483629) (by omega) (by decide)
            have hd2 := fdiv_nn (a := (sd * 39373 + sd.fdiv 1000 * (0 + (j : Int)) + 7919).fmod 2147483629) (b := 7) hs2.1 (by decide)
            have hm2 := fmod_nn (a := ((sd * 39373 + sd.fdiv 1000 * (0 + (j : Int)) + 7919).fmod 2147483629).fdiv 7) (b := 55440) hd2.1 (by decide)
            refine ⟨.ref D, rfl, .inl ⟨rfl, _, sqL e3⟩, _, rfl, _, 7, rfl, rfl, ⟨by decide, by decide⟩, .inl ⟨_, rfl, _, 55440, rfl, rfl, (by show (55440 : Int) ≠ 0; decide), D, _, _, rfl, rfl, e3, by rw [nts_len, sizeLine_eq]; omega, ?_⟩⟩
            refine ⟨⟨_, _, rfl, hs2⟩, fun b o e => ?_, l ++ [((((sd * 39373 + sd.fdiv 1000 * (0 + (j : Int)) + 7919).fmod 2147483629).fdiv 7).fmod 55440).toNat], ?_, ?_⟩
            · rw [upd_ne (ne_of_none e nD)]
              exact s3 _ _ e
            · rw [upd_same]
              exact congrArg (fun l => some (HO.lst l)) (nts_snoc _ hm2.1)
            · rw [List.length_append, List.length_singleton]
              omega
          · rintro σ H3 ⟨⟨c5, sd, rfl, h0, h1⟩, s3, l, e3, hl3⟩
            have hl3 : l.length ≤ 45 * i + 7 := hl3
            exact ⟨⟨_, _, _, _, _, rfl⟩, s3, l, e3, by omega⟩
    · rintro σ H2 ⟨⟨c2, c3, c4, c5, c6, rfl⟩, s2, l, e2, hl2⟩
      have hl2 : l.length ≤ 45 * ((ns.length : Int)).toNat := hl2
      refine ⟨.ref D, rfl, .inl ⟨rfl, _, sqL e2⟩, D, _, rfl, rfl, e2, .ref D, rfl, q D _ l.reverse (fun b o e => ?_) nD ?_ ?_⟩
      · rw [upd_ne (ne_of_none e nD)]
        exact s2 _ _ e
      · rw [upd_same]
        unfold nts
        rw [List.map_reverse]
      · rw [List.length_reverse]
        omega
end
def spDraw : Sp := fun vs H Q _ => ∃ (a : Addr) (m : Nat), vs = [.ref a, .int m] ∧ 1 ≤ m ∧ NumsAt H a ∧ ∀ (H' : Hp) (r : Nat), r < m → SameB a H H' → NumsAt H' a → Q (.int (r : Nat)) H'
def spInt : Sp := fun vs H Q _ => ∃ i : Int, vs = [.int i] ∧ Q (.bl true) H
section
variable {P : Program} {w : World} {K : PySem.W.Frag} {mg : Str → Option Value} {base : Heap}
theorem ok_draw {f : Addr} {fd : FuncData} {k : Nat} (F : Fun K "_law_draw" "_law_draw" s__law_draw f fd) (B : Bl mg) : FnOk P w K mg base CX0 (k + 1) f fd ["numbers", "many"] spDraw := by
  refine F.ok sc__law_draw (fun vs H Q E h => ?_) (fun cdv A outer s H vs Q E hr h => ?_)
  · obtain ⟨a, m, rfl, _⟩ := h
    rfl
  · obtain ⟨a, m, rfl, hm, ⟨l, ea, hl⟩, q⟩ := h
    refine ⟨_, pss_cons (ps_if (pt_cmpR op_eq (pe_callB call_len (by rfl) B.len PySem.boot_len (pa_cons (pv 0) pa_nil)) pe_int (nomark _)) (pss_one (ps_ret pe_int)) pss_nil)
      (pss_one (ps_ret (pe_op op_modN (pe_callTy call_int1 (by rfl) B.int (by decide +kernel) (pa_cons (pe_bm0 PySem.F.plainAttrs_list PySem.F.slot_list_pop PySem.F.type_list_pop mt_pop (pv 0)) pa_nil)) (pv 1)))), ?_⟩
    refine ⟨.ref a, rfl, .ref a, l.length, rfl, .inl ⟨_, sqL ea, (nts_len l).symm⟩, rfl, _, rfl, ?_⟩
    by_cases h0 : l.length = 0
    · rw [decide_eq_true (by rw [h0]; rfl)]
      exact iteT (q H 0 hm SameB.refl ⟨l, ea, hl⟩)
    rw [decide_eq_false (fun e => h0 (by have := V.int.inj e; omega))]
    have hi : l.length - 1 < l.length := by omega
    refine iteF ⟨.ref a, rfl, .inl ⟨rfl, _, sqL ea⟩, a, _, .int (l[l.length - 1]), rfl, rfl, ea, ?_, .inl ⟨_, rfl, .int m, rfl, _, m, rfl, rfl, (by show (m : Int) ≠ 0; omega), ?_⟩⟩
    · rw [nts_len]
      unfold nts
      rw [List.getElem?_map, List.getElem?_eq_getElem hi]
      rfl
    · have hf := fmod_nn (a := ((l[l.length - 1] : Nat) : Int)) (b := m) (by omega) (by omega)
      have z := q (upd H a (.lst (nts l).dropLast)) (((l[l.length - 1] : Nat) : Int).fmod m).toNat (by omega) (fun b o n e => by rw [upd_ne n]; exact e) ⟨l.dropLast, by rw [upd_same]; unfold nts; rw [List.map_dropLast], by rw [List.length_dropLast]; omega⟩
      rw [Int.toNat_of_nonneg hf.1] at z
      exact z
theorem ok_lint {f : Addr} {fd : FuncData} {k : Nat} (F : Fun K "_law_int" "_law_int" s__law_int f fd) (B : Bl mg) : FnOk P w K mg base CX0 (k + 1) f fd ["value"] spInt := by
  refine F.ok sc__law_int (fun vs H Q E h => ?_) (fun cdv A outer s H vs Q E hr h => ?_)
  · obtain ⟨i, rfl, _⟩ := h
    rfl
  · obtain ⟨i, rfl, q⟩ := h
    refine ⟨_, pss_one (ps_ret (pe_and (pe_callB call_isi (by rfl) B.isinstance (by decide +kernel) (pa_cons (pv 0) (pa_cons (pe_bltn (v := .ty "int") (u := .type "int") (by rfl) B.int (by decide +kernel) rfl) pa_nil)))
      (pe_one (pe_not (pe_callB call_isi (by rfl) B.isinstance (by decide +kernel) (pa_cons (pv 0) (pa_cons (pe_bltn (v := .ty "bool") (u := .type "bool") (by rfl) B.bool (by decide +kernel) rfl) pa_nil))))))), ?_⟩
    refine ⟨_, rfl, _, _, .type "int", _, true, rfl, .ty "int", .base (.int i), kit_ty (by decide +kernel), true, rfl, iteT ?_⟩
    exact ⟨_, rfl, _, _, .type "int", _, false, rfl, .ty "bool", .base (.int i), kit_ty (by decide +kernel), _, rfl, q⟩
theorem ok_numsD {k : Nat} (D : Pr P K mg) : FnOk P w K mg base CX0 (k + 1) D._law_numbers.f D._law_numbers.fd ["script"] (spLNums K) := ok_lnums D._law_numbers.F D.B
theorem ok_drawD {k : Nat} (D : Pr P K mg) : FnOk P w K mg base CX0 (k + 1) D._law_draw.f D._law_draw.fd ["numbers", "many"] spDraw := ok_draw D._law_draw.F D.B
end
end K7

set_option Elab.async false
set_option linter.all false
set_option maxRecDepth 100000
set_option maxHeartbeats 4000000
namespace K7
open PySem PySem.Spec PyProof.Rows L2 GX NdefX
/-- names of the law's pool -/
def poolLetters : Str := "xabkqmtzgw"
def txs (p : List Str) : List V := p.map V.str
def PoolName (k : Nat) (z : Str) : Prop := ∃ l1 l2 : Nat, l1 ∈ poolLetters.cps.toList ∧ l2 ∈ poolLetters.cps.toList ∧ (z.cps.toList = [l1, 48 + k] ∨ z.cps.toList = [l1, 46, l2, 48 + k] ∨ z.cps.toList = [l1, l2, 48 + k])
def PoolOk (n : Nat) (p : List Str) : Prop := p.length = n ∧ ∀ (k : Nat) (z : Str), p[k]? = some z → PoolName k z
def spPool : Sp := fun vs H Q _ => ∃ a : Addr, vs = [.ref a, .int 4] ∧ NumsAt H a ∧ ∀ D H' p, PoolOk 4 p → SameB a H H' → NumsAt H' a → H D = none → H' D = some (.lst (txs p)) → Q (.ref D) H'
theorem str_digit : ∀ k : Nat, k < 9 → (Str.ofString (toString (k : Int))).cps.toList = [48 + k] ∧ ((k : Int)).natAbs.log2 < 1920 ∧ (Str.ofString (toString (k : Int))).length = 1 := by decide +kernel
theorem appL (a b : Str) : (a ++ b).cps.toList = a.cps.toList ++ b.cps.toList := Array.toList_append
/-- a name of the law's kind -/
def NameS (z : Str) : Prop := nameB z = true ∧ z.cps.size ≤ 40
theorem nameS_T (l : List Nat) (h : nameB (T l) = true) : NameS (T l) := by
  refine ⟨h, ?_⟩
  unfold nameB at h
  simp only [Bool.and_eq_true, decide_eq_true_eq] at h
  exact h.1.1.2
theorem nameS_of {z : Str} (h : nameB z = true) : NameS z := by
  have := nameS_T z.cps.toList
  rw [T_of] at this
  exact this h
theorem pool_names : ∀ l1 ∈ poolLetters.cps.toList, ∀ k < 4, nameB (T [l1, 48 + k]) = true ∧ ∀ l2 ∈ poolLetters.cps.toList, nameB (T [l1, 46, l2, 48 + k]) = true ∧ nameB (T [l1, l2, 48 + k]) = true := by decide +kernel
theorem PoolName.name {k : Nat} {z : Str} (hk : k < 4) (h : PoolName k z) : nameB z = true := by
  obtain ⟨l1, l2, m1, m2, h⟩ := h
  obtain ⟨p1, p2⟩ := pool_names l1 m1 k hk
  obtain ⟨p3, p4⟩ := p2 l2 m2
  rcases h with h | h | h <;> (rw [T_eq h]; assumption)
theorem PoolOk.names {p : List Str} (h : PoolOk 4 p) : ∀ z ∈ p, nameB z = true := fun z m => by
  obtain ⟨i, hi, rfl⟩ := List.getElem_of_mem m
  exact (h.2 i _ (List.getElem?_eq_getElem hi)).name (by rw [← h.1]; exact hi)
section
variable {P : Program} {w : World} {K : PySem.W.Frag} {mg : Str → Option Value} {base : Heap}
theorem ok_pool {k : Nat} (D : Pr P K mg) : FnOk P w K mg base CX0 (k + 2) D._law_pool.f D._law_pool.fd ["numbers", "total"] spPool := by
  have G__law_draw : FnOk P w K mg base CX0 (k + 1) D._law_draw.f D._law_draw.fd ["numbers", "many"] spDraw := ok_drawD D
  refine D._law_pool.F.ok sc__law_pool (fun vs H Q E h => ?_) (fun cdv A outer s H vs Q E hr h => ?_)
  · obtain ⟨a, rfl, _⟩ := h
    rfl
  · obtain ⟨a, rfl, hn, q⟩ := h
    refine ⟨_, (pss_cons (ps_set (i := 2) sc__law_pool.nd rfl (.inl rfl) pe_str)
      (pss_cons (ps_set (i := 3) sc__law_pool.nd rfl (.inl rfl) (pe_lst pa_nil))
      (pss_cons (ps_for PassesOwn.never rfl (pi_range1 (by rfl) D.B.range (pa_cons (pv 1) pa_nil)) (pg_name (i := 4) sc__law_pool.nd rfl (.inl rfl)) (pss_cons (ps_set (i := 5) sc__law_pool.nd rfl (.inl rfl) (pe_ix (r := rIxS) ix_str (pv 2) (pe_call G__law_draw (hr.mono (by omega)) (by rfl) D._law_draw.g D._law_draw.F.kp D._law_draw.b .nil pass0 (pa_cons (pv 0) (pa_cons pe_int pa_nil))) (fun _ _ => rfl))) (pss_cons (ps_set (i := 6) sc__law_pool.nd rfl (.inl rfl) (pe_call G__law_draw (hr.mono (by omega)) (by rfl) D._law_draw.g D._law_draw.F.kp D._law_draw.b .nil pass0 (pa_cons (pv 0) (pa_cons pe_int pa_nil)))) (pss_cons (ps_if (pt_cmpR op_eq (pv 6) pe_int (nomark _)) (pss_one (ps_set (i := 5) sc__law_pool.nd rfl (.inl rfl) (pe_op op_add_str (pe_op op_add_str (pv 5) pe_str) (pe_ix (r := rIxS) ix_str (pv 2) (pe_call G__law_draw (hr.mono (by omega)) (by rfl) D._law_draw.g D._law_draw.F.kp D._law_draw.b .nil pass0 (pa_cons (pv 0) (pa_cons pe_int pa_nil))) (fun _ _ => rfl))))) pss_nil) (pss_cons (ps_if (pt_cmpR op_eq (pv 6) pe_int (nomark _)) (pss_one (ps_set (i := 5) sc__law_pool.nd rfl (.inl rfl) (pe_op op_add_str (pv 5) (pe_ix (r := rIxS) ix_str (pv 2) (pe_call G__law_draw (hr.mono (by omega)) (by rfl) D._law_draw.g D._law_draw.F.kp D._law_draw.b .nil pass0 (pa_cons (pv 0) (pa_cons pe_int pa_nil))) (fun _ _ => rfl))))) pss_nil) (pss_one (ps_expr (pe_bm PySem.F.plainAttrs_list PySem.F.slot_list_append PySem.F.type_list_append mt_append (pv 3) (pa_cons (pe_op op_add_str (pv 5) (pe_callTy call_str_int (by rfl) D.B.str (by decide +kernel) (pa_cons (pv 4) pa_nil))) pa_nil)))))))))
      (pss_one (ps_ret (pv 3)))))), ?_⟩
    refine ⟨Nat.zero_le _, fun D nD => ?_⟩
    have hDa : D ≠ a := fun e => by
      obtain ⟨l, e2, _⟩ := hn
      rw [e, e2] at nD
      cases nD
    refine ⟨.int 4, rfl, 4, rfl, by decide, by decide, ?_⟩
    refine for_range (D := { nx := _, rt := Q }) (fun i σ H' => (∃ c4 c5 c6, σ = [some (.ref a), some (.int 4), some (.str poolLetters), some (.ref D), c4, c5, c6]) ∧ SameB a H H' ∧ NumsAt H' a ∧ ∃ p, H' D = some (.lst (txs p)) ∧ PoolOk i p) ?_ ?_ ?_
    · exact ⟨⟨_, _, _, rfl⟩, sameB_of (same_upd nD), hn.same (same_upd nD), [], upd_same, rfl, fun k z e => by simp at e⟩
    · rintro k σ H2 hk ⟨⟨c4, c5, c6, rfl⟩, s2, n2, p, e2, hp⟩
      have hk : k < 4 := hk
      rw [show (0 : Int) + k = k from Int.zero_add _]
      have hlt : ∀ r : Nat, r < 10 → ∃ c, poolLetters.cps.toList[r]? = some c ∧ c ∈ poolLetters.cps.toList := fun r hr => by
        have hl : poolLetters.cps.toList.length = 10 := by decide
        exact ⟨_, List.getElem?_eq_getElem (by omega), List.getElem_mem _⟩
      have hsz : poolLetters.length ≤ sizeLine := by decide
      have ek : (0 : Int) + k = k := Int.zero_add _
      obtain ⟨hd1, hd2, hd3⟩ := str_digit k (by omega)
      -- name = letters[..]
      refine ⟨_, rfl, .ref a, rfl, a, 10, rfl, by decide, n2, fun H3 r1 hr1 s3 n3 => ?_⟩
      obtain ⟨x1, g1, m1⟩ := hlt r1 hr1
      refine ⟨poolLetters, r1, x1, rfl, rfl, hsz, atI_nat g1, ?_⟩
      -- word
      refine ⟨.ref a, rfl, a, 6, rfl, by decide, n3, fun H4 r2 hr2 s4 n4 => ?_⟩
      have s24 := s2.trans (s3.trans s4)
      have e4 := s4 _ _ hDa (s3 _ _ hDa e2)
      refine ⟨_, rfl, rfl, _, rfl, ?_⟩
      by_cases h5 : r2 = 5
      · subst h5
        refine iteT ⟨_, rfl, _, _, rfl, rfl, by show 1 + 1 ≤ sizeLine; decide, _, rfl, .ref a, rfl, a, 10, rfl, by decide, n4, fun H5 r3 hr3 s5 n5 => ?_⟩
        obtain ⟨x2, g2, m2⟩ := hlt r3 hr3
        refine ⟨poolLetters, r3, x2, rfl, rfl, hsz, atI_nat g2, _, _, rfl, rfl, by rw [lenApp]; show 1 + 1 + 1 ≤ sizeLine; decide, ?_⟩
        refine ⟨_, rfl, rfl, _, rfl, ?_⟩
        refine iteF ?_
        have e5 := s5 _ _ hDa e4
        have s25 := s24.trans s5
        refine ⟨.ref D, rfl, .inl ⟨rfl, _, sqL e5⟩, .str ((⟨#[x1]⟩ : Str) ++ Str.ofString "." ++ ⟨#[x2]⟩), rfl, .int k, rfl, k, rfl, hd2, _, _, rfl, rfl, ?_, D, _, _, rfl, rfl, e5, by unfold txs; rw [List.length_map, hp.1, sizeLine_eq]; omega, ?_⟩
        · rw [hd3, sizeLine_eq]
          have : ((⟨#[x1]⟩ : Str) ++ Str.ofString "." ++ ⟨#[x2]⟩).length = 3 := by rw [lenApp, lenApp]; rfl
          omega
        refine ⟨⟨_, _, _, rfl⟩, fun b o n e => ?_, ?_, p ++ [((⟨#[x1]⟩ : Str) ++ Str.ofString "." ++ ⟨#[x2]⟩) ++ Str.ofString (toString (k : Int))], ?_, ?_⟩
        · rw [upd_ne (ne_of_none e nD)]
          exact s25 _ _ n e
        · obtain ⟨l, e, n⟩ := n5
          exact ⟨l, by rw [upd_ne hDa.symm]; exact e, n⟩
        · rw [upd_same]
          unfold txs
          rw [List.map_append]
          rfl
        · refine ⟨by rw [List.length_append, List.length_singleton, hp.1], fun j z hj => ?_⟩
          rcases Nat.lt_or_ge j k with hjk | hjk
          · rw [List.getElem?_append_left (by rw [hp.1]; exact hjk)] at hj
            exact hp.2 j z hj
          · have hjk2 := (List.getElem?_eq_some_iff.mp hj).1
            rw [List.length_append, List.length_singleton, hp.1] at hjk2
            have ej : j = k := by omega
            subst ej
            rw [List.getElem?_append_right (by rw [hp.1]; exact Nat.le_refl _), hp.1, Nat.sub_self] at hj
            have hz := Option.some.inj hj
            subst hz
            exact ⟨x1, x2, m1, m2, .inr (.inl (by rw [appL, appL, appL, hd1]; rfl))⟩
      rw [decide_eq_false (fun e => h5 (by have := V.int.inj e; omega))]
      refine iteF ⟨_, rfl, rfl, _, rfl, ?_⟩
      by_cases h4 : r2 = 4
      · subst h4
        refine iteT ⟨_, rfl, _, rfl, .ref a, rfl, a, 10, rfl, by decide, n4, fun H5 r3 hr3 s5 n5 => ?_⟩
        obtain ⟨x2, g2, m2⟩ := hlt r3 hr3
        refine ⟨poolLetters, r3, x2, rfl, rfl, hsz, atI_nat g2, _, _, rfl, rfl, by show 1 + 1 ≤ sizeLine; decide, ?_⟩
        have e5 := s5 _ _ hDa e4
        have s25 := s24.trans s5
        refine ⟨.ref D, rfl, .inl ⟨rfl, _, sqL e5⟩, .str ((⟨#[x1]⟩ : Str) ++ ⟨#[x2]⟩), rfl, .int k, rfl, k, rfl, hd2, _, _, rfl, rfl, ?_, D, _, _, rfl, rfl, e5, by unfold txs; rw [List.length_map, hp.1, sizeLine_eq]; omega, ?_⟩
        · rw [hd3, sizeLine_eq]
          have : ((⟨#[x1]⟩ : Str) ++ ⟨#[x2]⟩).length = 2 := by rw [lenApp]; rfl
          omega
        refine ⟨⟨_, _, _, rfl⟩, fun b o n e => ?_, ?_, p ++ [((⟨#[x1]⟩ : Str) ++ ⟨#[x2]⟩) ++ Str.ofString (toString (k : Int))], ?_, ?_⟩
        · rw [upd_ne (ne_of_none e nD)]
          exact s25 _ _ n e
        · obtain ⟨l, e, n⟩ := n5
          exact ⟨l, by rw [upd_ne hDa.symm]; exact e, n⟩
        · rw [upd_same]
          unfold txs
          rw [List.map_append]
          rfl
        · refine ⟨by rw [List.length_append, List.length_singleton, hp.1], fun j z hj => ?_⟩
          rcases Nat.lt_or_ge j k with hjk | hjk
          · rw [List.getElem?_append_left (by rw [hp.1]; exact hjk)] at hj
            exact hp.2 j z hj
          · have hjk2 := (List.getElem?_eq_some_iff.mp hj).1
            rw [List.length_append, List.length_singleton, hp.1] at hjk2
            have ej : j = k := by omega
            subst ej
            rw [List.getElem?_append_right (by rw [hp.1]; exact Nat.le_refl _), hp.1, Nat.sub_self] at hj
            have hz := Option.some.inj hj
            subst hz
            exact ⟨x1, x2, m1, m2, .inr (.inr (by rw [appL, appL, hd1]; rfl))⟩
      rw [decide_eq_false (fun e => h4 (by have := V.int.inj e; omega))]
      refine iteF ?_
      refine ⟨.ref D, rfl, .inl ⟨rfl, _, sqL e4⟩, .str (⟨#[x1]⟩ : Str), rfl, .int k, rfl, k, rfl, hd2, _, _, rfl, rfl, ?_, D, _, _, rfl, rfl, e4, by unfold txs; rw [List.length_map, hp.1, sizeLine_eq]; omega, ?_⟩
      · rw [hd3, sizeLine_eq]
        have : (⟨#[x1]⟩ : Str).length = 1 := rfl
        omega
      refine ⟨⟨_, _, _, rfl⟩, fun b o n e => ?_, ?_, p ++ [(⟨#[x1]⟩ : Str) ++ Str.ofString (toString (k : Int))], ?_, ?_⟩
      · rw [upd_ne (ne_of_none e nD)]
        exact s24 _ _ n e
      · obtain ⟨l, e, n⟩ := n4
        exact ⟨l, by rw [upd_ne hDa.symm]; exact e, n⟩
      · rw [upd_same]
        unfold txs
        rw [List.map_append]
        rfl
      · refine ⟨by rw [List.length_append, List.length_singleton, hp.1], fun j z hj => ?_⟩
        rcases Nat.lt_or_ge j k with hjk | hjk
        · rw [List.getElem?_append_left (by rw [hp.1]; exact hjk)] at hj
          exact hp.2 j z hj
        · have hjk2 := (List.getElem?_eq_some_iff.mp hj).1
          rw [List.length_append, List.length_singleton, hp.1] at hjk2
          have ej : j = k := by omega
          subst ej
          rw [List.getElem?_append_right (by rw [hp.1]; exact Nat.le_refl _), hp.1, Nat.sub_self] at hj
          have hz := Option.some.inj hj
          subst hz
          exact ⟨x1, x1, m1, m1, .inl (by rw [appL, hd1]; rfl)⟩
    · rintro σ H2 ⟨⟨c4, c5, c6, rfl⟩, s2, n2, p, e2, hp⟩
      exact ⟨.ref D, rfl, q D H2 p hp s2 n2 nD e2⟩
end
end K7

set_option Elab.async false
set_option linter.all false
set_option maxRecDepth 100000
set_option maxHeartbeats 4000000
namespace K7
open PySem PySem.Spec PyProof.Rows L2 GX NdefX
/-! ### loose texts -/
def LoOk (l : List Nat) (f : Fm) (d : Nat) : Prop := l ≠ [] ∧ Rd (wd [] l) f d
def spn (n : Nat) : List Nat := List.replicate n 32
theorem txt_ne : ∀ f : Fm, f.ok = true → f.txt ≠ []
  | .bit b, _ => by simp [Fm.txt]
  | .name x, h => by have h : nameB x = true := h; simp only [Fm.txt]; exact (name_free h).1
  | .edge r x, _ => by cases r <;> simp [Fm.txt, eL]
  | .not f, _ => by simp [Fm.txt, notL]
  | .joint w fs, _ => by simp [Fm.txt]
theorem lo_txt {f : Fm} (h : f.ok = true) : LoOk f.txt f f.dep := ⟨txt_ne f h, txt_rd f h⟩
theorem wd_lb (l : List Nat) : wd [] (40 :: l) = [40] :: wd [] l := by
  rw [wd, if_neg (by decide), if_pos (.inl rfl)]; rfl
theorem wd_rb : wd [] [41] = [[41]] := rfl
theorem beg_rb (n : Nat) : Beg (spn n ++ [41]) := by
  cases n with
  | zero => exact .inr ⟨41, [], rfl, rfl⟩
  | succ n => exact beg_sp _ (.inl (by omega))
theorem wd_br (l : List Nat) (i j : Nat) : wd [] (40 :: (spn i ++ (l ++ (spn j ++ [41])))) = [40] :: (wd [] l ++ [[41]]) := by
  rw [wd_lb, spn, wd_sp, wd_app (beg_rb j), spn, wd_sp, wd_rb]
theorem lo_wrap {l : List Nat} {f : Fm} {d : Nat} (h : LoOk l f d) (i j : Nat) : LoOk (40 :: (spn i ++ (l ++ (spn j ++ [41])))) f d := by
  refine ⟨by simp, ?_⟩
  rw [wd_br]
  exact rd_br h.2
theorem beg_head {l : List Nat} (h : l.head? = some 40) : Beg l := by
  cases l with
  | nil => cases h
  | cons c r => cases h; exact .inr ⟨40, r, rfl, rfl⟩
theorem wd_after {k l : List Nat} (ne : k ≠ []) (hk : ∀ c ∈ k, isD c = false) {n : Nat} (h : 1 ≤ n ∨ l.head? = some 40) : wd [] (k ++ (spn n ++ l)) = k :: wd [] l := by
  unfold spn
  rw [wd_app (beg_sp n (h.imp id beg_head)), wd_one ne hk, wd_sp]; rfl
theorem lo_not {l : List Nat} {f : Fm} {d n : Nat} (h : LoOk l f d) (g : 1 ≤ n ∨ l.head? = some 40) : LoOk ([110, 111, 116] ++ (spn n ++ l)) (.not f) (d + 1) := by
  refine ⟨by simp, ?_⟩
  rw [wd_after (by decide) (by decide) g]
  exact rd_not h.2
/-- the loose text of a joint's parts -/
def JOk (w : Bool) (l : List Nat) (fs : List Fm) : Prop := ∃ f r p ps, fs = f :: r ∧ l ≠ [] ∧ wd [] l = p ++ jointW w ps ∧ Rd p f f.dep ∧ Paired (fun p (q : Fm × Nat) => Rd p q.1 q.2) ps (r.map fun f => (f, f.dep))
theorem jointW_snoc (w : Bool) (ps : List (List (List Nat))) (q : List (List Nat)) : jointW w (ps ++ [q]) = jointW w ps ++ jL w :: q := by
  induction ps with
  | nil => simp [jointW]
  | cons p r ih => simp [jointW, ih]
theorem j_one (w : Bool) {l : List Nat} {f : Fm} (h : LoOk l f f.dep) : JOk w l [f] := ⟨f, [], wd [] l, [], rfl, h.1, by simp [jointW], h.2, .nil⟩
theorem end_last {l : List Nat} (h : l.getLast? = some 41) : End l := by
  rw [List.getLast?_eq_some_iff] at h
  obtain ⟨p, rfl⟩ := h
  exact ⟨p, 41, rfl, rfl⟩
theorem j_more {w : Bool} {l l2 : List Nat} {fs : List Fm} {g : Fm} {n m : Nat} (h : JOk w l fs) (h2 : LoOk l2 g g.dep) (e1 : 1 ≤ n ∨ l.getLast? = some 41) (e2 : 1 ≤ m ∨ l2.head? = some 40) :
    JOk w (l ++ (spn n ++ (jL w ++ (spn m ++ l2)))) (fs ++ [g]) := by
  obtain ⟨f, r, p, ps, rfl, ne, ew, hr, hp⟩ := h
  refine ⟨f, r ++ [g], p, ps ++ [wd [] l2], rfl, by simp [ne], ?_, hr, ?_⟩
  · have : wd [] (l ++ (spn n ++ (jL w ++ (spn m ++ l2)))) = wd [] l ++ wd [] (spn n ++ (jL w ++ (spn m ++ l2))) := by
      rcases e1 with e | e
      · exact wd_app (beg_sp n (.inl e)) _ _
      · exact wd_end (end_last e) _ _
    rw [this, spn, wd_sp, wd_after (jL_free w).1 (jL_free w).2 e2, ew, jointW_snoc, List.append_assoc]
  · rw [List.map_append]
    exact hp.snoc h2.2
theorem j_end {w : Bool} {l : List Nat} {fs : List Fm} (n : Nat) (h : JOk w l fs) (two : 2 ≤ fs.length) : LoOk (40 :: (spn n ++ (l ++ [41]))) (.joint w fs) (Fm.joint w fs).dep := by
  obtain ⟨f, r, p, ps, rfl, ne, ew, hr, hp⟩ := h
  refine ⟨by simp, ?_⟩
  rw [show [41] = spn 0 ++ [41] from rfl, wd_br, ew]
  have e : (r.map fun f => (f, f.dep)).map (·.1) = r := by rw [List.map_map]; exact List.map_id r
  have e2 : (r.map fun f => (f, f.dep)).map (·.2) = r.map Fm.dep := by rw [List.map_map]; rfl
  have := rd_joint w hr hp (by
    rintro rfl
    cases r with
    | nil => simp at two
    | cons _ _ => cases hp)
  rw [e, e2, max_dep] at this
  simp only [Fm.dep, depL]
  exact this
theorem joinT_snoc (w : Bool) (fs : List Fm) (g : Fm) (ne : fs ≠ []) : joinT w (fs ++ [g]) = joinT w fs ++ (32 :: (jL w ++ [32])) ++ g.txt := by
  have key : ∀ r : List Fm, moreT w (r ++ [g]) = moreT w r ++ ((32 :: (jL w ++ [32])) ++ g.txt) := by
    intro r
    induction r with
    | nil => simp [moreT]
    | cons f r ih => simp only [List.cons_append, moreT, ih, List.append_assoc]
  cases fs with
  | nil => exact absurd rfl ne
  | cons f r => simp only [List.cons_append, joinT, key, List.append_assoc]
theorem depL_snoc (fs : List Fm) (g : Fm) : depL (fs ++ [g]) = max (depL fs) g.dep := by
  induction fs with
  | nil => simp [depL]
  | cons f r ih => simp only [List.cons_append, depL, ih, Nat.max_assoc]
/-! ### how long -/
mutual
theorem txt_len : ∀ f : Fm, f.ok = true → f.txt.length + 5 ≤ 50 * f.cnt
  | .bit b, _ => by simp [Fm.txt, Fm.cnt]
  | .name x, h => by
    have := (nameS_of (show nameB x = true from h)).2
    simp only [Fm.txt, Fm.cnt, Array.length_toList]; omega
  | .edge r x, h => by
    have := (nameS_of (show nameB x = true from h)).2
    have : (eL r).length = 4 := by cases r <;> rfl
    simp only [Fm.txt, Fm.cnt, List.length_append, List.length_cons, Array.length_toList]; omega
  | .not f, h => by
    have := txt_len f h
    simp only [Fm.txt, Fm.cnt, List.length_append, notL, List.length_cons, List.length_nil]; omega
  | .joint w fs, h => by
    simp only [Fm.ok, Bool.and_eq_true, decide_eq_true_eq] at h
    have := txts_len w fs h.2
    match fs, h with
    | f :: r, h =>
      simp only [moreT, List.length_append, List.length_cons, List.length_nil] at this
      have e : (jL w).length ≥ 2 := by cases w <;> decide
      simp only [Fm.txt, joinT, Fm.cnt, List.length_append, List.length_cons, List.length_nil]; omega
theorem txts_len (w : Bool) : ∀ r : List Fm, okL r = true → (moreT w r).length ≤ 50 * cntL r
  | [], _ => by simp [moreT]
  | f :: r, h => by
    have h2 : f.ok = true ∧ okL r = true := by simpa [okL] using h
    have h3 := txt_len f h2.1
    have h4 := txts_len w r h2.2
    have e : (jL w).length ≤ 3 := by cases w <;> decide
    simp only [moreT, cntL, List.length_append, List.length_cons, List.length_nil]; omega
end
mutual
theorem dep_cnt : ∀ f : Fm, f.dep ≤ f.cnt
  | .bit b => by simp [Fm.dep, Fm.cnt]
  | .name x => by simp [Fm.dep, Fm.cnt]
  | .edge r x => by simp [Fm.dep, Fm.cnt]
  | .not f => by have := dep_cnt f; simp only [Fm.dep, Fm.cnt]; omega
  | .joint w fs => by have := depL_cnt fs; simp only [Fm.dep, Fm.cnt]; omega
theorem depL_cnt : ∀ r : List Fm, depL r ≤ cntL r
  | [] => by simp [depL]
  | f :: r => by have := dep_cnt f; have := depL_cnt r; simp only [depL, cntL]; omega
end
mutual
theorem bulk_data : ∀ f : Fm, f.ok = true → f.data.bulk + 1 ≤ 60 * f.cnt
  | .bit b, _ => by
    simp only [Fm.data, Fm.cnt, PyData.bulk, PyData.bulkAll]
    have : (Str.ofString "bit").cps.size = 3 := by decide
    omega
  | .name x, h => by
    have := (nameS_of (show nameB x = true from h)).2
    simp only [Fm.data, Fm.cnt, PyData.bulk, PyData.bulkAll]
    have : (Str.ofString "name").cps.size = 4 := by decide
    omega
  | .edge r x, h => by
    have := (nameS_of (show nameB x = true from h)).2
    simp only [Fm.data, Fm.cnt, PyData.bulk, PyData.bulkAll]
    have : (eK r).cps.size = 4 := by cases r <;> decide
    omega
  | .not f, h => by
    have := bulk_data f h
    simp only [Fm.data, Fm.cnt, PyData.bulk, PyData.bulkAll]
    have : (Str.ofString "not").cps.size = 3 := by decide
    omega
  | .joint w fs, h => by
    simp only [Fm.ok, Bool.and_eq_true, decide_eq_true_eq] at h
    have := bulk_dataL fs h.2
    simp only [Fm.data, Fm.cnt, PyData.bulk, PyData.bulkAll]
    have : (jK w).cps.size ≤ 3 := by cases w <;> decide
    omega
theorem bulk_dataL : ∀ r : List Fm, okL r = true → PyData.bulkAll (dataL r) ≤ 60 * cntL r
  | [], _ => by simp [dataL, PyData.bulkAll]
  | f :: r, h => by
    have h2 : f.ok = true ∧ okL r = true := by simpa [okL] using h
    have := bulk_data f h2.1
    have := bulk_dataL r h2.2
    simp only [dataL, PyData.bulkAll, cntL, List.length_cons]; omega
end
end K7

set_option Elab.async false
set_option linter.all false
set_option maxRecDepth 100000
set_option maxHeartbeats 4000000
namespace K7
open PySem PySem.Spec PyProof.Rows L2 GX NdefX
/-! ### a part of the law: what it tells, exact, loose, how deep, its names and edges -/
def TupK (H H' : Hp) : Prop := ∀ b xs, H b = some (.tup xs) → H' b = some (.tup xs)
mutual
def noL : PyData → Bool
  | .list _ => false
  | .dict _ => false
  | .tuple xs => noLs xs
  | _ => true
def noLs : List PyData → Bool
  | [] => true
  | d :: r => noL d && noLs r
end
mutual
theorem noL_data : ∀ f : Fm, noL f.data = true
  | .bit b => rfl
  | .name x => rfl
  | .edge r x => rfl
  | .not f => by simp [Fm.data, noL, noLs, noL_data f]
  | .joint w fs => by simp [Fm.data, noL, noLs, noL_dataL fs]
theorem noL_dataL : ∀ r : List Fm, noLs (dataL r) = true
  | [] => rfl
  | f :: r => by simp [dataL, noLs, noL_data f, noL_dataL r]
end
mutual
theorem Dh.tups {H H1 : Hp} (s : TupK H H1) : ∀ (d : PyData) (v : V), noL d = true → Dh H v d → Dh H1 v d
  | .none, _, _, .non => .non
  | .bool _, _, _, .bl b => .bl b
  | .int _, _, _, .int i => .int i
  | .str _, _, _, .str x => .str x
  | .tuple ds, _, n, .tup e h => .tup (s _ _ e) (DhAll.tups s ds _ (by simpa only [noL] using n) h)
theorem DhAll.tups {H H1 : Hp} (s : TupK H H1) : ∀ (ds : List PyData) (vs : List V), noLs ds = true → DhAll H vs ds → DhAll H1 vs ds
  | [], _, _, .nil => .nil
  | d :: ds, _, n, .cons h t => by
    have n : noL d = true ∧ noLs ds = true := by simpa [noLs] using n
    exact .cons (Dh.tups s d _ n.1 h) (DhAll.tups s ds _ n.2 t)
end
structure PartV (H : Hp) (Z : Addr → Prop) (p : Addr) (f : Fm) (lo : List Nat) (v : V) (nl el : Addr) : Prop where
  at_ : H p = some (.lst [v, .str (T f.txt), .str (T lo), .int (f.dep : Nat), .ref nl, .ref el])
  dh : Dh H v f.data
  nm : H nl = some (.lst (txs f.nms))
  ed : H el = some (.lst (txs f.eds))
  nz : ¬ Z p ∧ ¬ Z nl ∧ ¬ Z el
  ok : f.ok = true
  lok : LoOk lo f f.dep
  len : lo.length + 30 ≤ 100 * f.cnt
def PartX (H : Hp) (Z : Addr → Prop) (p : Addr) (f : Fm) (lo : List Nat) : Prop := ∃ v nl el, PartV H Z p f lo v nl el
theorem PartV.keep {H H' : Hp} {Z : Addr → Prop} {p : Addr} {f : Fm} {lo : List Nat} {v : V} {nl el : Addr} (h : PartV H Z p f lo v nl el) (s : ∀ b o, ¬ Z b → H b = some o → H' b = some o) (t : TupK H H') : PartV H' Z p f lo v nl el :=
  { h with at_ := s _ _ h.nz.1 h.at_, dh := h.dh.tups t _ _ (noL_data f), nm := s _ _ h.nz.2.1 h.nm, ed := s _ _ h.nz.2.2 h.ed }
theorem PartX.keep {H H' : Hp} {Z : Addr → Prop} {p : Addr} {f : Fm} {lo : List Nat} (h : PartX H Z p f lo) (s : ∀ b o, ¬ Z b → H b = some o → H' b = some o) (t : TupK H H') : PartX H' Z p f lo := by
  obtain ⟨v, nl, el, h⟩ := h
  exact ⟨v, nl, el, h.keep s t⟩
theorem PartX.mono {H : Hp} {Z Z' : Addr → Prop} {p : Addr} {f : Fm} {lo : List Nat} (h : PartX H Z p f lo) (s : ∀ b, Z' b → Z b) : PartX H Z' p f lo := by
  obtain ⟨v, nl, el, h⟩ := h
  exact ⟨v, nl, el, { h with nz := ⟨fun z => h.nz.1 (s _ z), fun z => h.nz.2.1 (s _ z), fun z => h.nz.2.2 (s _ z)⟩ }⟩
theorem SameB.offz {N : Addr} {H H' : Hp} {Z : Addr → Prop} (s : SameB N H H') (z : Z N) : ∀ b o, ¬ Z b → H b = some o → H' b = some o := fun b o nb e => s b o (by rintro rfl; exact nb z) e
theorem SameB.tups {N : Addr} {H H' : Hp} (s : SameB N H H') (n : NumsAt H N) : TupK H H' := fun b xs e => s b _ (by
  rintro rfl
  obtain ⟨l, e2, _⟩ := n
  rw [e] at e2; cases e2) e
theorem Same.tups {H H' : Hp} (s : Same H H') : TupK H H' := fun b xs e => s b _ e
/-- no tracked address is lost by a draw -/
theorem SameB.dom {N : Addr} {H H' : Hp} (s : SameB N H H') (n : NumsAt H' N) : ∀ b, H b ≠ none → H' b ≠ none := fun b h e => by
  by_cases q : b = N
  · subst q
    obtain ⟨l, e2, _⟩ := n
    rw [e] at e2; cases e2
  · cases hb : H b with
    | none => exact h hb
    | some o => rw [s b o q hb] at e; cases e
theorem txt_int01 (n : Nat) (h : n < 2) : Str.ofString (toString (n : Int)) = T [if n = 1 then 49 else 48] ∧ ((n : Int)).natAbs.log2 < 1920 ∧ (Str.ofString (toString (n : Int))).length ≤ 1000 := by
  obtain rfl | rfl : n = 0 ∨ n = 1 := by omega
  all_goals exact ⟨by decide +kernel, by decide, by decide +kernel⟩
def spWrap : Sp := fun vs H Q _ => ∃ (a : Addr) (l : List Nat) (f : Fm) (d : Nat), vs = [.ref a, .str (T l)] ∧ NumsAt H a ∧ l.length ≤ 100000 ∧ LoOk l f d ∧ ∀ H' l', SameB a H H' → NumsAt H' a → LoOk l' f d → l'.length ≤ l.length + 10 → Q (.str (T l')) H'
def spGap : Sp := fun vs H Q _ => ∃ (a : Addr) (b : Bool), vs = [.ref a, .bl b] ∧ NumsAt H a ∧ ∀ H' n, SameB a H H' → NumsAt H' a → n ≤ 3 → (1 ≤ n ∨ b = true) → Q (.str (T (spn n))) H'
def spLeafT : Sp := fun vs H Q _ => ∃ (a na : Addr) (zs : List Str), vs = [.ref a, .ref na] ∧ H na = some (.lst (txs zs)) ∧ na ≠ a ∧ 1 ≤ zs.length ∧ zs.length ≤ 1000 ∧ (∀ z ∈ zs, nameB z = true) ∧ NumsAt H a ∧
  ∀ p H' f lo, SameB a H H' → NumsAt H' a → PartX H' (fun b => H b ≠ none) p f lo → f.cnt = 1 → Q (.ref p) H'
theorem repl_sp (n : Nat) : RG.repL (Str.ofString " ").cps.toList n = spn n := by
  unfold RG.repL spn
  rw [show (Str.ofString " ").cps.toList = [32] by decide +kernel]
  induction n with
  | zero => rfl
  | succ n ih => rw [List.replicate_succ, List.flatten_cons, ih]; rfl
theorem len_lb : (Str.ofString "(").length = 1 := by decide
theorem len_rb : (Str.ofString ")").length = 1 := by decide
section
variable {P : Program} {w : World} {K : PySem.W.Frag} {mg : Str → Option Value} {base : Heap}
theorem ok_gap {k : Nat} (D : Pr P K mg) : FnOk P w K mg base CX0 (k + 2) D._law_gap.f D._law_gap.fd ["numbers", "touching"] spGap := by
  have G__law_draw : FnOk P w K mg base CX0 (k + 1) D._law_draw.f D._law_draw.fd ["numbers", "many"] spDraw := ok_drawD D
  refine D._law_gap.F.ok sc__law_gap (fun vs H Q E h => ?_) (fun cdv A outer s H vs Q E hr h => ?_)
  · obtain ⟨a, b, rfl, _⟩ := h
    rfl
  · obtain ⟨a, b, rfl, hn, q⟩ := h
    refine ⟨_, (pss_cons (ps_if (pt_val (pv 1)) (pss_one (ps_ret (pe_op RG.op_repS pe_str (pe_call G__law_draw (hr.mono (by omega)) (by rfl) D._law_draw.g D._law_draw.F.kp D._law_draw.b .nil pass0 (pa_cons (pv 0) (pa_cons pe_int pa_nil)))))) pss_nil)
      (pss_one (ps_ret (pe_op RG.op_repS pe_str (pe_op (r := rAddN) op_AddN pe_int (pe_call G__law_draw (hr.mono (by omega)) (by rfl) D._law_draw.g D._law_draw.F.kp D._law_draw.b .nil pass0 (pa_cons (pv 0) (pa_cons pe_int pa_nil)))))))), ?_⟩
    refine ⟨.bl b, rfl, b, rfl, ?_⟩
    cases b with
    | true =>
      refine iteT ⟨.ref a, rfl, a, 3, rfl, by decide, hn, fun H1 r hr1 s1 n1 => ⟨_, r, rfl, rfl, by omega, by decide, fun b eb => ?_⟩⟩
      rw [T_eq (eb.trans (repl_sp r))]
      exact q H1 r s1 n1 (by omega) (.inr rfl)
    | false =>
      refine iteF ⟨.ref a, rfl, a, 3, rfl, by decide, hn, fun H1 r hr1 s1 n1 => ?_⟩
      refine ⟨1, r, rfl, rfl, ?_⟩
      refine ⟨_, 1 + r, rfl, rfl, by omega, by decide, fun b eb => ?_⟩
      rw [T_eq (eb.trans (repl_sp _))]
      exact q H1 _ s1 n1 (by omega) (.inl (by omega))
theorem ok_wrap {k : Nat} (D : Pr P K mg) : FnOk P w K mg base CX0 (k + 2) D._law_wrapped.f D._law_wrapped.fd ["numbers", "loose"] spWrap := by
  have G__law_draw : FnOk P w K mg base CX0 (k + 1) D._law_draw.f D._law_draw.fd ["numbers", "many"] spDraw := ok_drawD D
  refine D._law_wrapped.F.ok sc__law_wrapped (fun vs H Q E h => ?_) (fun cdv A outer s H vs Q E hr h => ?_)
  · obtain ⟨a, l, f, d, rfl, _⟩ := h
    rfl
  · obtain ⟨a, l, f, d, rfl, hn, hl, lo, q⟩ := h
    refine ⟨_, (pss_cons (ps_for PassesOwn.never rfl (pi_range1 (by rfl) D.B.range (pa_cons (pe_ix (r := rIxL K) ix_list (pe_lst (pa_cons pe_int (pa_cons pe_int (pa_cons pe_int (pa_cons pe_int (pa_cons pe_int (pa_cons pe_int pa_nil))))))) (pe_call G__law_draw (hr.mono (by omega)) (by rfl) D._law_draw.g D._law_draw.F.kp D._law_draw.b .nil pass0 (pa_cons (pv 0) (pa_cons pe_int pa_nil))) (fun _ _ => rfl)) pa_nil)) (pg_name (i := 2) sc__law_wrapped.nd rfl (.inl rfl)) (pss_one (ps_set (i := 1) sc__law_wrapped.nd rfl (.inl rfl) (pe_op op_add_str (pe_op op_add_str (pe_op op_add_str (pe_op op_add_str pe_str (pe_op RG.op_repS pe_str (pe_call G__law_draw (hr.mono (by omega)) (by rfl) D._law_draw.g D._law_draw.F.kp D._law_draw.b .nil pass0 (pa_cons (pv 0) (pa_cons pe_int pa_nil))))) (pv 1)) (pe_op RG.op_repS pe_str (pe_call G__law_draw (hr.mono (by omega)) (by rfl) D._law_draw.g D._law_draw.F.kp D._law_draw.b .nil pass0 (pa_cons (pv 0) (pa_cons pe_int pa_nil))))) pe_str))))
      (pss_one (ps_ret (pv 1)))), ?_⟩
    refine ⟨by show 6 ≤ sizeLine; rw [sizeLine_eq]; decide, fun C nC => ?_⟩
    have hCa : C ≠ a := fun e => by
      obtain ⟨l, e2, _⟩ := hn
      rw [e, e2] at nC
      cases nC
    refine ⟨.ref a, rfl, a, 6, rfl, by decide, hn.same (same_upd nC), fun H1 r hr1 s1 n1 => ?_⟩
    have eC := s1 _ _ hCa upd_same
    have s1 := (sameB_of (a := a) (same_upd nC)).trans s1
    obtain ⟨m, hm, em⟩ : ∃ m : Nat, m ≤ 2 ∧ ([V.int 0, V.int 0, V.int 1, V.int 2, V.int 0, V.int 1])[r]? = some (.int (m : Nat)) := by
      obtain rfl | rfl | rfl | rfl | rfl | rfl : r = 0 ∨ r = 1 ∨ r = 2 ∨ r = 3 ∨ r = 4 ∨ r = 5 := by omega
      · exact ⟨0, by omega, rfl⟩
      · exact ⟨0, by omega, rfl⟩
      · exact ⟨1, by omega, rfl⟩
      · exact ⟨2, by omega, rfl⟩
      · exact ⟨0, by omega, rfl⟩
      · exact ⟨1, by omega, rfl⟩
    refine ⟨C, _, _, .int (m : Nat), rfl, rfl, sqL eC, atI_nat em, ?_⟩
    refine ⟨(m : Nat), rfl, by omega, by omega, ?_⟩
    refine forRg (n := m) (fun i σ H2 => (∃ c2 l2, σ = [some (.ref a), some (.str (T l2)), c2] ∧ LoOk l2 f d ∧ l2.length ≤ l.length + 5 * i) ∧ SameB a H H2 ∧ NumsAt H2 a) ⟨⟨_, l, rfl, lo, by omega⟩, s1, n1⟩ ?_ ?_
    · rintro i σ H2 hi ⟨⟨c2, l2, rfl, lo2, hl2⟩, s2, n2⟩
      refine ⟨.ref a, rfl, a, 3, rfl, by decide, n2, fun H3 r3 hr3 s3 n3 => ⟨_, r3, rfl, rfl, by omega, by decide, fun b eb => ?_⟩⟩
      obtain rfl : b = T (spn r3) := T_eq (eb.trans (repl_sp r3))
      refine ⟨_, _, rfl, rfl, by simp only [T_len, spn, List.length_replicate, len_lb]; rw [sizeLine_eq]; omega, _, rfl, _, _, rfl, rfl, by simp only [lenApp, T_len, spn, List.length_replicate, len_lb]; rw [sizeLine_eq]; omega, ?_⟩
      refine ⟨.ref a, rfl, a, 2, rfl, by decide, n3, fun H4 r4 hr4 s4 n4 => ⟨_, r4, rfl, rfl, by omega, by decide, fun b eb => ?_⟩⟩
      obtain rfl : b = T (spn r4) := T_eq (eb.trans (repl_sp r4))
      refine ⟨_, _, rfl, rfl, by simp only [lenApp, T_len, spn, List.length_replicate, len_lb]; rw [sizeLine_eq]; omega, _, _, rfl, rfl, by simp only [lenApp, T_len, spn, List.length_replicate, len_lb, len_rb]; rw [sizeLine_eq]; omega, ?_⟩
      rw [show Str.ofString "(" ++ T (spn r3) ++ T l2 ++ T (spn r4) ++ Str.ofString ")" = T (40 :: (spn r3 ++ (l2 ++ (spn r4 ++ [41])))) by rw [str_lbT, str_rbT]; simp [T_app]]
      exact ⟨⟨_, _, rfl, lo_wrap lo2 r3 r4, by simp only [List.length_cons, List.length_append, List.length_nil, spn, List.length_replicate]; omega⟩, s2.trans (s3.trans s4), n4⟩
    · rintro σ H2 ⟨⟨c2, l2, rfl, lo2, hl2⟩, s2, n2⟩
      exact ⟨_, rfl, q H2 l2 s2 n2 lo2 (by omega)⟩
end
end K7

set_option Elab.async false
set_option linter.all false
set_option maxRecDepth 100000
set_option maxHeartbeats 4000000
namespace K7
open PySem PySem.Spec PyProof.Rows L2 GX NdefX
/-- a leaf's part, as it is made -/
theorem part_made {H H3 : Hp} {a tp nl el p : Addr} {ts : List V} {x1 x2 : Str} {f : Fm} {lo : List Nat} (s : SameB a H H3) (n : NumsAt H3 a) (nT : H3 tp = none) (nn : upd H3 tp (.tup ts) nl = none)
    (ne : upd (upd H3 tp (.tup ts)) nl (.lst (txs f.nms)) el = none) (np : upd (upd (upd H3 tp (.tup ts)) nl (.lst (txs f.nms))) el (.lst (txs f.eds)) p = none)
    (e1 : x1 = T f.txt) (e2 : x2 = T lo) (hd : ∀ H' : Hp, H' tp = some (.tup ts) → Dh H' (.ref tp) f.data) (ok : f.ok = true) (lok : LoOk lo f 1) (d1 : f.dep = 1) (len : lo.length + 30 ≤ 100 * f.cnt)
    {H4 : Hp} (e4 : H4 = upd (upd (upd (upd H3 tp (.tup ts)) nl (.lst (txs f.nms))) el (.lst (txs f.eds))) p (.lst [.ref tp, .str x1, .str x2, .int 1, .ref nl, .ref el])) :
    SameB a H H4 ∧ NumsAt H4 a ∧ PartX H4 (fun b => H b ≠ none) p f lo := by
  subst e1 e2
  have q1 : nl ≠ tp := fun e => by subst e; rw [upd_same] at nn; cases nn
  rw [upd_ne q1] at nn
  have q2 : el ≠ nl := fun e => by subst e; rw [upd_same] at ne; cases ne
  rw [upd_ne q2] at ne
  have q3 : el ≠ tp := fun e => by subst e; rw [upd_same] at ne; cases ne
  rw [upd_ne q3] at ne
  have q4 : p ≠ el := fun e => by subst e; rw [upd_same] at np; cases np
  rw [upd_ne q4] at np
  have q5 : p ≠ nl := fun e => by subst e; rw [upd_same] at np; cases np
  rw [upd_ne q5] at np
  have q6 : p ≠ tp := fun e => by subst e; rw [upd_same] at np; cases np
  rw [upd_ne q6] at np
  have sm : Same H3 H4 := fun b o e => by
    rw [e4, upd_ne (ne_of_none e np), upd_ne (ne_of_none e ne), upd_ne (ne_of_none e nn), upd_ne (ne_of_none e nT)]
    exact e
  have off : ∀ b, H3 b = none → ¬ H b ≠ none := fun b e z => s.dom n b z e
  refine ⟨s.trans (sameB_of sm), n.same sm, .ref tp, nl, el, ⟨?_, hd _ ?_, ?_, ?_, ⟨off _ np, off _ nn, off _ ne⟩, ok, by rw [d1]; exact lok, len⟩⟩
  · rw [e4, upd_same, d1]; rfl
  · rw [e4, upd_ne q6.symm, upd_ne q3.symm, upd_ne q1.symm, upd_same]
  · rw [e4, upd_ne q5.symm, upd_ne q2.symm, upd_same]
  · rw [e4, upd_ne q4.symm, upd_same]
theorem T_lit (x : String) : Str.ofString x = T (Str.ofString x).cps.toList := (T_of _).symm
section
variable {P : Program} {w : World} {K : PySem.W.Frag} {mg : Str → Option Value} {base : Heap}
theorem ok_leaft {k : Nat} (D : Pr P K mg) : FnOk P w K mg base CX0 (k + 2) D._law_leaf_told.f D._law_leaf_told.fd ["numbers", "names"] spLeafT := by
  have G__law_draw : FnOk P w K mg base CX0 (k + 1) D._law_draw.f D._law_draw.fd ["numbers", "many"] spDraw := ok_drawD D
  refine D._law_leaf_told.F.ok sc__law_leaf_told (fun vs H Q E h => ?_) (fun cdv A outer s H vs Q E hr h => ?_)
  · obtain ⟨a, na, zs, rfl, _⟩ := h
    rfl
  · obtain ⟨a, na, zs, rfl, ena, hna, h1, h2, hz, hn, q⟩ := h
    refine ⟨_, (pss_cons (ps_set (i := 2) sc__law_leaf_told.nd rfl (.inl rfl) (pe_call G__law_draw (hr.mono (by omega)) (by rfl) D._law_draw.g D._law_draw.F.kp D._law_draw.b .nil pass0 (pa_cons (pv 0) (pa_cons pe_int pa_nil))))
      (pss_cons (ps_set (i := 3) sc__law_leaf_told.nd rfl (.inl rfl) (pe_ix (r := rIxL K) ix_list (pv 1) (pe_call G__law_draw (hr.mono (by omega)) (by rfl) D._law_draw.g D._law_draw.F.kp D._law_draw.b .nil pass0 (pa_cons (pv 0) (pa_cons (pe_callB call_len (by rfl) D.B.len PySem.boot_len (pa_cons (pv 1) pa_nil)) pa_nil))) (fun _ _ => rfl)))
      (pss_cons (ps_if (pt_cmpR op_eq (pv 2) pe_int (nomark _)) (pss_cons (ps_set (i := 4) sc__law_leaf_told.nd rfl (.inl rfl) (pe_call G__law_draw (hr.mono (by omega)) (by rfl) D._law_draw.g D._law_draw.F.kp D._law_draw.b .nil pass0 (pa_cons (pv 0) (pa_cons pe_int pa_nil)))) (pss_one (ps_ret (pe_lst (pa_cons (pe_tup (pa_cons pe_str (pa_cons (pv 4) pa_nil))) (pa_cons (pe_callTy call_str_int (by rfl) D.B.str (by decide +kernel) (pa_cons (pv 4) pa_nil)) (pa_cons (pe_callTy call_str_int (by rfl) D.B.str (by decide +kernel) (pa_cons (pv 4) pa_nil)) (pa_cons pe_int (pa_cons (pe_lst pa_nil) (pa_cons (pe_lst pa_nil) pa_nil)))))))))) pss_nil)
      (pss_cons (ps_if (pt_cmpR op_eq (pv 2) pe_int (nomark _)) (pss_one (ps_ret (pe_lst (pa_cons (pe_tup (pa_cons pe_str (pa_cons (pv 3) pa_nil))) (pa_cons (pe_op op_add_str pe_str (pv 3)) (pa_cons (pe_op op_add_str pe_str (pv 3)) (pa_cons pe_int (pa_cons (pe_lst (pa_cons (pv 3) pa_nil)) (pa_cons (pe_lst (pa_cons (pv 3) pa_nil)) pa_nil))))))))) pss_nil)
      (pss_cons (ps_if (pt_cmpR op_eq (pv 2) pe_int (nomark _)) (pss_one (ps_ret (pe_lst (pa_cons (pe_tup (pa_cons pe_str (pa_cons (pv 3) pa_nil))) (pa_cons (pe_op op_add_str pe_str (pv 3)) (pa_cons (pe_op op_add_str pe_str (pv 3)) (pa_cons pe_int (pa_cons (pe_lst (pa_cons (pv 3) pa_nil)) (pa_cons (pe_lst (pa_cons (pv 3) pa_nil)) pa_nil))))))))) pss_nil)
      (pss_one (ps_ret (pe_lst (pa_cons (pe_tup (pa_cons pe_str (pa_cons (pv 3) pa_nil))) (pa_cons (pv 3) (pa_cons (pv 3) (pa_cons pe_int (pa_cons (pe_lst (pa_cons (pv 3) pa_nil)) (pa_cons (pe_lst pa_nil) pa_nil)))))))))))))), ?_⟩
    refine ⟨.ref a, rfl, a, 8, rfl, by decide, hn, fun H1 r1 hr1 s1 n1 => ?_⟩
    refine ⟨.ref na, rfl, .ref a, rfl, .ref na, rfl, .ref na, zs.length, rfl, .inl ⟨_, sqL (s1 _ _ hna ena), (List.length_map _).symm⟩, a, zs.length, rfl, h1, n1, fun H2 r2 hr2 s2 n2 => ?_⟩
    have s2 := s1.trans s2
    refine ⟨na, _, _, .str zs[r2], rfl, rfl, sqL (s2 _ _ hna ena), atI_nat (by unfold txs; rw [List.getElem?_map, List.getElem?_eq_getElem hr2]; rfl), ?_⟩
    have hx := hz _ (List.getElem_mem hr2)
    generalize zs[r2] = x at hx
    refine ⟨_, rfl, rfl, _, rfl, ?_⟩
    by_cases e7 : r1 = 7
    · subst e7
      refine iteT ⟨.ref a, rfl, a, 2, rfl, by decide, n2, fun H3 r3 hr3 s3 n3 => ?_⟩
      obtain ⟨t1, t2, t3⟩ := txt_int01 r3 hr3
      refine ⟨_, rfl, by show 2 ≤ sizeLine; rw [sizeLine_eq]; decide, fun tp nT => ?_⟩
      refine ⟨_, rfl, r3, rfl, t2, _, rfl, r3, rfl, t2, by show 0 ≤ sizeLine; omega, fun nl nn => ⟨by show 0 ≤ sizeLine; omega, fun el ne => ⟨by show 6 ≤ sizeLine; rw [sizeLine_eq]; decide, fun p np => ?_⟩⟩⟩
      have eb : ((r3 : Nat) : Int) = if decide (r3 = 1) = true then 1 else 0 := by
        obtain rfl | rfl : r3 = 0 ∨ r3 = 1 := by omega
        all_goals rfl
      have et : (Fm.bit (decide (r3 = 1))).txt = [if r3 = 1 then 49 else 48] := by
        obtain rfl | rfl : r3 = 0 ∨ r3 = 1 := by omega
        all_goals rfl
      obtain ⟨z1, z2, z3⟩ := part_made (x1 := Str.ofString (toString (r3 : Int))) (x2 := Str.ofString (toString (r3 : Int))) (f := .bit (decide (r3 = 1))) (lo := (Fm.bit (decide (r3 = 1))).txt) (s2.trans s3) n3 nT nn ne np (by rw [t1, et]) (by rw [t1, et]) (fun H' e => by
        refine .tup e (.cons (.str _) (.cons ?_ .nil))
        rw [eb]; exact .int _) rfl (lo_txt (f := .bit (decide (r3 = 1))) rfl) rfl (by rw [et]; simp [Fm.cnt]) rfl
      exact q p _ _ _ z1 z2 z3 rfl
    rw [decide_eq_false (fun e => e7 (by have := V.int.inj e; omega))]
    refine iteF ⟨_, rfl, rfl, _, rfl, ?_⟩
    have fin : ∀ (r : Bool) (k : String) (k1 k2 : String), (eK r) = k → (Str.ofString k1).cps.toList = eL r ++ [32] → (∃ m, (Str.ofString k2).cps.toList = eL r ++ spn (m + 1) ∧ m ≤ 2) →
      ∀ (tp nl el p : Addr), H2 tp = none → upd H2 tp (.tup [.str (Str.ofString k), .str x]) nl = none → upd (upd H2 tp (.tup [.str (Str.ofString k), .str x])) nl (.lst [.str x]) el = none →
      upd (upd (upd H2 tp (.tup [.str (Str.ofString k), .str x])) nl (.lst [.str x])) el (.lst [.str x]) p = none → 
      Q (.ref p) (upd (upd (upd (upd H2 tp (.tup [.str (Str.ofString k), .str x])) nl (.lst [.str x])) el (.lst [.str x])) p (.lst [.ref tp, .str (Str.ofString k1 ++ x), .str (Str.ofString k2 ++ x), .int 1, .ref nl, .ref el])) := by
      rintro r k k1 k2 ek ek1 ⟨m, ek2, hm⟩ tp nl el p nT nn ne np
      have l1 : Str.ofString k1 ++ x = T (Fm.edge r x).txt := by
        rw [T_lit k1, ek1, ← T_of x, T_app]
        simp [Fm.txt]
      have l2 : Str.ofString k2 ++ x = T (eL r ++ (spn (m + 1) ++ x.cps.toList)) := by
        rw [T_lit k2, ek2, ← T_of x, T_app, T_list, List.append_assoc]
      have ok : (Fm.edge r x).ok = true := hx
      have lok : LoOk (eL r ++ (spn (m + 1) ++ x.cps.toList)) (Fm.edge r x) 1 := by
        refine ⟨by cases r <;> simp [eL], ?_⟩
        rw [wd_after (eL_free r).1 (eL_free r).2 (.inl (by omega)), wd_name hx]
        have := rd_edge (w := x.cps.toList) r (by rw [T_of]; exact hx)
        rw [T_of] at this
        exact this
      have hl := (nameS_of hx).2
      have he : (eL r).length = 4 := by cases r <;> rfl
      obtain ⟨z1, z2, z3⟩ := part_made (f := .edge r x) (lo := eL r ++ (spn (m + 1) ++ x.cps.toList)) s2 n2 nT nn ne np l1 l2 (fun H' e => by
        refine .tup e (.cons ?_ (.cons (.str _) .nil))
        rw [← ek]; exact .str _) ok lok rfl (by simp only [List.length_append, spn, List.length_replicate, Array.length_toList, Fm.cnt]; omega) rfl
      exact q p _ _ _ z1 z2 z3 rfl
    have hl := (nameS_of hx).2
    have hxl : x.length ≤ 40 := hl
    by_cases e6 : r1 = 6
    · subst e6
      refine iteT ⟨_, rfl, by show 2 ≤ sizeLine; rw [sizeLine_eq]; decide, fun tp nT => ?_⟩
      refine ⟨_, rfl, _, _, rfl, rfl, by rw [show (Str.ofString "rise ").length = 5 by decide, sizeLine_eq]; omega, _, rfl, _, _, rfl, rfl, by rw [show (Str.ofString "rise  ").length = 6 by decide, sizeLine_eq]; omega, ?_⟩
      refine ⟨_, rfl, by show 1 ≤ sizeLine; rw [sizeLine_eq]; decide, fun nl nn => ⟨_, rfl, by show 1 ≤ sizeLine; rw [sizeLine_eq]; decide, fun el ne => ⟨by show 6 ≤ sizeLine; rw [sizeLine_eq]; decide, fun p np => ?_⟩⟩⟩
      exact fin true "rise" _ _ rfl (by decide +kernel) ⟨1, by decide +kernel, by omega⟩ tp nl el p nT nn ne np
    rw [decide_eq_false (fun e => e6 (by have := V.int.inj e; omega))]
    refine iteF ⟨_, rfl, rfl, _, rfl, ?_⟩
    by_cases e5 : r1 = 5
    · subst e5
      refine iteT ⟨_, rfl, by show 2 ≤ sizeLine; rw [sizeLine_eq]; decide, fun tp nT => ?_⟩
      refine ⟨_, rfl, _, _, rfl, rfl, by rw [show (Str.ofString "fall ").length = 5 by decide, sizeLine_eq]; omega, _, rfl, _, _, rfl, rfl, by rw [show (Str.ofString "fall   ").length = 7 by decide, sizeLine_eq]; omega, ?_⟩
      refine ⟨_, rfl, by show 1 ≤ sizeLine; rw [sizeLine_eq]; decide, fun nl nn => ⟨_, rfl, by show 1 ≤ sizeLine; rw [sizeLine_eq]; decide, fun el ne => ⟨by show 6 ≤ sizeLine; rw [sizeLine_eq]; decide, fun p np => ?_⟩⟩⟩
      exact fin false "fall" _ _ rfl (by decide +kernel) ⟨2, by decide +kernel, by omega⟩ tp nl el p nT nn ne np
    rw [decide_eq_false (fun e => e5 (by have := V.int.inj e; omega))]
    refine iteF ⟨_, rfl, by show 2 ≤ sizeLine; rw [sizeLine_eq]; decide, fun tp nT => ?_⟩
    refine ⟨_, rfl, _, rfl, _, rfl, by show 1 ≤ sizeLine; rw [sizeLine_eq]; decide, fun nl nn => ⟨by show 0 ≤ sizeLine; omega, fun el ne => ⟨by show 6 ≤ sizeLine; rw [sizeLine_eq]; decide, fun p np => ?_⟩⟩⟩
    obtain ⟨z1, z2, z3⟩ := part_made (f := .name x) (lo := (Fm.name x).txt) s2 n2 nT nn ne np (T_of x).symm (T_of x).symm (fun H' e => .tup e (.cons (.str _) (.cons (.str _) .nil))) hx (lo_txt (f := .name x) hx) rfl (by simp only [Fm.txt, Fm.cnt, Array.length_toList]; omega) rfl
    exact q p _ _ _ z1 z2 z3 rfl
end
end K7

set_option Elab.async false
set_option linter.all false
set_option maxRecDepth 100000
set_option maxHeartbeats 4000000
namespace K7
open PySem PySem.Spec PyProof.Rows L2 GX NdefX
def spNotT : Sp := fun vs H Q _ => ∃ (a p : Addr) (bare : Bool) (f : Fm) (lo : List Nat) (Z : Addr → Prop), vs = [.ref a, .ref p, .bl bare] ∧ NumsAt H a ∧ Z a ∧ (∀ b, Z b → H b ≠ none) ∧ PartX H Z p f lo ∧ f.cnt ≤ 200 ∧
  ∀ p' H' lo', SameB a H H' → NumsAt H' a → PartX H' Z p' (.not f) lo' → Q (.ref p') H'
def decB (c : Nat) : Bool := decide (V.str ⟨#[c]⟩ = V.str (Str.ofString "("))
theorem dec_lb (c : Nat) : decide (V.str ⟨#[c]⟩ = V.str (Str.ofString "(")) = decide (c = 40) := by
  rw [strEq, str_lbT]
  exact decide_eq_decide.mpr ⟨fun e => by have := T_inj (a := [c]) (b := [40]) e; simpa using this, fun e => by rw [e]; rfl⟩
theorem dec_rb (c : Nat) : decide (V.str ⟨#[c]⟩ = V.str (Str.ofString ")")) = decide (c = 41) := by
  rw [strEq, str_rbT]
  exact decide_eq_decide.mpr ⟨fun e => by have := T_inj (a := [c]) (b := [41]) e; simpa using this, fun e => by rw [e]; rfl⟩
section
variable {P : Program} {w : World} {K : PySem.W.Frag} {mg : Str → Option Value} {base : Heap}
theorem ok_nott {k : Nat} (D : Pr P K mg) : FnOk P w K mg base CX0 (k + 3) D._law_not_told.f D._law_not_told.fd ["numbers", "part", "bare"] spNotT := by
  have G__law_wrapped : FnOk P w K mg base CX0 (k + 2) D._law_wrapped.f D._law_wrapped.fd ["numbers", "loose"] spWrap := ok_wrap D
  have G__law_gap : FnOk P w K mg base CX0 (k + 2) D._law_gap.f D._law_gap.fd ["numbers", "touching"] spGap := ok_gap D
  refine D._law_not_told.F.ok sc__law_not_told (fun vs H Q E h => ?_) (fun cdv A outer s H vs Q E hr h => ?_)
  · obtain ⟨a, p, bare, f, lo, Z, rfl, _⟩ := h
    rfl
  · obtain ⟨a, p, bare, f, lo, Z, rfl, hn, za, zd, ⟨v, nl, el, hp⟩, hc, q⟩ := h
    have hlen := hp.len
    refine ⟨_, (pss_cons (ps_set (i := 3) sc__law_not_told.nd rfl (.inl rfl) (pe_ix (r := rIxL K) ix_list (pv 1) pe_int (fun _ _ => rfl)))
      (pss_cons (ps_if (pt_not (pt_val (pv 2))) (pss_one (ps_set (i := 3) sc__law_not_told.nd rfl (.inl rfl) (pe_call G__law_wrapped (hr.mono (by omega)) (by rfl) D._law_wrapped.g D._law_wrapped.F.kp D._law_wrapped.b .nil pass0 (pa_cons (pv 0) (pa_cons (pe_ix (r := rIxL K) ix_list (pv 1) pe_int (fun _ _ => rfl)) pa_nil))))) pss_nil)
      (pss_cons (ps_set (i := 4) sc__law_not_told.nd rfl (.inl rfl) (pe_op op_add_str (pe_op op_add_str pe_str (pe_call G__law_gap (hr.mono (by omega)) (by rfl) D._law_gap.g D._law_gap.F.kp D._law_gap.b .nil pass0 (pa_cons (pv 0) (pa_cons (pe_cmpR op_eq (pe_ix (r := rIxS) ix_str (pv 3) pe_int (fun _ _ => rfl)) pe_str (nomark _)) pa_nil)))) (pv 3)))
      (pss_one (ps_ret (pe_lst (pa_cons (pe_tup (pa_cons pe_str (pa_cons (pe_ix (r := rIxL K) ix_list (pv 1) pe_int (fun _ _ => rfl)) pa_nil))) (pa_cons (pe_op op_add_str pe_str (pe_ix (r := rIxL K) ix_list (pv 1) pe_int (fun _ _ => rfl))) (pa_cons (pv 4) (pa_cons (pe_op (r := rAddN) op_AddN (pe_ix (r := rIxL K) ix_list (pv 1) pe_int (fun _ _ => rfl)) pe_int) (pa_cons (pe_ix (r := rIxL K) ix_list (pv 1) pe_int (fun _ _ => rfl)) (pa_cons (pe_ix (r := rIxL K) ix_list (pv 1) pe_int (fun _ _ => rfl)) pa_nil)))))))))))), ?_⟩
    refine ⟨.ref p, rfl, p, _, _, .str (T lo), rfl, rfl, sqL hp.at_, rfl, ?_⟩
    refine ⟨.bl bare, rfl, bare, rfl, ?_⟩
    cases bare
    case' true =>
      obtain ⟨H2, e2⟩ : ∃ H2, H2 = H := ⟨_, rfl⟩
      obtain ⟨inner, e3⟩ : ∃ inner, inner = lo := ⟨_, rfl⟩
      have s2 : SameB a H H2 := e2 ▸ SameB.refl
      have n2 : NumsAt H2 a := e2 ▸ hn
      have lo2 : LoOk inner f f.dep := e3 ▸ hp.lok
      have hl2 : inner.length ≤ lo.length + 10 := by rw [e3]; omega
      refine iteF ?_
      rw [← e2, ← e3]
    case' false =>
      refine iteT ⟨.ref a, rfl, .ref p, rfl, p, _, _, .str (T lo), rfl, rfl, sqL hp.at_, rfl, a, lo, f, f.dep, rfl, hn, by omega, hp.lok, fun H2 inner s2 n2 lo2 hl2 => ?_⟩
    all_goals
      have hp2 := hp.keep (s2.offz za) (s2.tups hn)
      obtain ⟨c, r, er⟩ : ∃ c r, inner = c :: r := by
        cases inner with
        | nil => exact absurd rfl lo2.1
        | cons c r => exact ⟨c, r, rfl⟩
      have li : inner.length ≤ 100000 := by omega
      refine ⟨.ref a, rfl, .str (T inner), rfl, T inner, 0, c, rfl, rfl, by rw [T_len, sizeLine_eq]; omega, by rw [T_list, er]; exact atI_nat (j := 0) rfl, rfl, a, _, rfl, n2, fun H3 n s3 n3 hn3 hg => ?_⟩
      rw [dec_lb] at hg
      refine ⟨_, _, rfl, rfl, by rw [T_len, spn, List.length_replicate, show (Str.ofString "not").length = 3 by decide, sizeLine_eq]; omega, _, rfl, _, _, rfl, rfl, by rw [lenApp, T_len, T_len, spn, List.length_replicate, show (Str.ofString "not").length = 3 by decide, sizeLine_eq]; omega, ?_⟩
      have hp3 := hp2.keep (s3.offz za) (s3.tups n2)
      refine ⟨.ref p, rfl, p, _, _, v, rfl, rfl, sqL hp3.at_, rfl, by show 2 ≤ sizeLine; rw [sizeLine_eq]; decide, fun tp nT => ?_⟩
      have e4 : upd H3 tp (.tup [.str (Str.ofString "not"), v]) p = _ := (upd_ne (ne_of_none hp3.at_ nT)).trans hp3.at_
      have ht := txt_len f hp.ok
      refine ⟨.ref p, rfl, p, _, _, .str (T f.txt), rfl, rfl, sqL e4, rfl, _, _, rfl, rfl, by rw [T_len, show (Str.ofString "not ").length = 4 by decide, sizeLine_eq]; omega, _, rfl, .ref p, rfl, p, _, _, .int (f.dep : Nat), rfl, rfl, sqL e4, rfl, f.dep, 1, rfl, rfl, .ref p, rfl, p, _, _, .ref nl, rfl, rfl, sqL e4, rfl, .ref p, rfl, p, _, _, .ref el, rfl, rfl, sqL e4, rfl, by show 6 ≤ sizeLine; rw [sizeLine_eq]; decide, fun p' np => ?_⟩
      have q1 : p' ≠ tp := fun e => by subst e; rw [upd_same] at np; cases np
      have np0 := np
      rw [upd_ne q1] at np0
      have sm : Same H3 (upd (upd H3 tp (.tup [.str (Str.ofString "not"), v])) p' (.lst [.ref tp, .str (Str.ofString "not " ++ T f.txt), .str (Str.ofString "not" ++ T (spn n) ++ T inner), .int ((f.dep + 1 : Nat) : Int), .ref nl, .ref el])) := fun b o e => by
        rw [upd_ne (ne_of_none e np0), upd_ne (ne_of_none e nT)]; exact e
      refine q p' _ ([110, 111, 116] ++ (spn n ++ inner)) (s2.trans (s3.trans (sameB_of sm))) (n3.same sm) ⟨.ref tp, nl, el, ⟨?_, ?_, sm _ _ hp3.nm, sm _ _ hp3.ed, ⟨fun z => ?_, hp.nz.2⟩, hp.ok, lo_not lo2 (hg.imp id fun e => by rw [er]; simpa using e), ?_⟩⟩
      · rw [upd_same, show Str.ofString "not " ++ T f.txt = T (Fm.not f).txt by rw [str_notT, T_app]; rfl, show Str.ofString "not" ++ T (spn n) ++ T inner = T ([110, 111, 116] ++ (spn n ++ inner)) by rw [show Str.ofString "not" = T [110, 111, 116] by decide +kernel]; simp [T_app]]
        rfl
      · exact .tup (by rw [upd_ne q1.symm, upd_same]) (.cons (.str _) (.cons (hp3.dh.same sm) .nil))
      · have := (s2.trans s3).dom n3 _ (zd _ z)
        exact this np0
      · simp only [List.length_append, List.length_cons, List.length_nil, spn, List.length_replicate, Fm.cnt]; omega
end
end K7

set_option Elab.async false
set_option linter.all false
set_option maxRecDepth 100000
set_option maxHeartbeats 4000000
namespace K7
open PySem PySem.Spec PyProof.Rows L2 GX NdefX
def nmsL (fs : List Fm) : List Str := (lvsL fs).filterMap nmOf
def edsL (fs : List Fm) : List Str := (lvsL fs).filterMap edOf
theorem nmsL_snoc (fs : List Fm) (g : Fm) : nmsL (fs ++ [g]) = nmsL fs ++ g.nms := by
  unfold nmsL Fm.nms
  rw [lvsL_app, List.filterMap_append]; simp [lvsL]
theorem edsL_snoc (fs : List Fm) (g : Fm) : edsL (fs ++ [g]) = edsL fs ++ g.eds := by
  unfold edsL Fm.eds
  rw [lvsL_app, List.filterMap_append]; simp [lvsL]
theorem lvs_len (f : Fm) : f.nms.length ≤ f.cnt ∧ f.eds.length ≤ f.cnt := by
  have h := lvs_cnt f
  exact ⟨Nat.le_trans (List.length_filterMap_le _ _) h, Nat.le_trans (List.length_filterMap_le _ _) h⟩
theorem lvsL_len (fs : List Fm) : (nmsL fs).length ≤ cntL fs ∧ (edsL fs).length ≤ cntL fs := by
  have h := lvsL_cnt fs
  exact ⟨Nat.le_trans (List.length_filterMap_le _ _) h, Nat.le_trans (List.length_filterMap_le _ _) h⟩
theorem dhAll_get {H : Hp} : ∀ (ts : List V) (fs : List Fm), ts.length = fs.length → (∀ (i : Nat) (x : V) (f : Fm), ts[i]? = some x → fs[i]? = some f → Dh H x f.data) → DhAll H ts (dataL fs)
  | [], [], _, _ => .nil
  | x :: ts, f :: fs, l, h => .cons (h 0 x f rfl rfl) (dhAll_get ts fs (by simpa using l) fun i x f e1 e2 => h (i + 1) x f e1 e2)
  | [], _ :: _, l, _ => by simp at l
  | _ :: _, [], l, _ => by simp at l
theorem take_snoc {α : Type} {l : List α} {i : Nat} {x : α} (h : l[i]? = some x) : l.take (i + 1) = l.take i ++ [x] := by
  rw [List.take_succ, h]; rfl
theorem cntL_take (fs : List Fm) (i : Nat) : cntL (fs.take i) ≤ cntL fs := by
  have := cntL_app (fs.take i) (fs.drop i)
  rw [List.take_append_drop] at this
  omega
theorem joinT_len (w : Bool) (fs : List Fm) (h : okL fs = true) : (joinT w fs).length ≤ 50 * cntL fs := by
  cases fs with
  | nil => simp [joinT]
  | cons f r =>
    have := txts_len w (f :: r) h
    simp only [moreT, List.length_append, List.length_cons, List.length_nil] at this
    simp only [joinT, List.length_append]; omega
theorem joinT_ne (w : Bool) (fs : List Fm) (h : okL fs = true) : joinT w fs = [] ↔ fs = [] := by
  cases fs with
  | nil => simp [joinT]
  | cons f r =>
    have h2 : f.ok = true ∧ okL r = true := by simpa [okL] using h
    simp [joinT, txt_ne f h2.1]
theorem jK_len (w : Bool) : (jK w).length ≤ 3 := by cases w <;> decide
theorem jL_len (w : Bool) : (jL w).length ≤ 3 := by cases w <;> decide
theorem str_emp : (Str.ofString "" : Str) = T [] := by decide +kernel
theorem len_cnt (fs : List Fm) : fs.length ≤ cntL fs := by
  induction fs with
  | nil => simp
  | cons f r ih => have := f.cnt_pos; simp only [List.length_cons, cntL]; omega
theorem len_sp : (Str.ofString " ").length = 1 := by decide
def spJointT : Sp := fun vs H Q _ => ∃ (a pl : Addr) (xs : List V) (fs : List Fm) (Z : Addr → Prop), vs = [.ref a, .ref pl] ∧ NumsAt H a ∧ Z a ∧ pl ≠ a ∧ H pl = some (.lst xs) ∧ Paired (fun (x : V) (f : Fm) => ∃ q lo, x = .ref q ∧ PartX H Z q f lo) xs fs ∧
  2 ≤ fs.length ∧ cntL fs ≤ 200 ∧ ∀ p' H' w lo', SameB a H H' → NumsAt H' a → PartX H' (fun b => H b ≠ none) p' (.joint w fs) lo' → Q (.ref p') H'
section
variable {P : Program} {w : World} {K : PySem.W.Frag} {mg : Str → Option Value} {base : Heap}
theorem ok_jointt {k : Nat} (D : Pr P K mg) : FnOk P w K mg base CX0 (k + 3) D._law_joint_told.f D._law_joint_told.fd ["numbers", "parts"] spJointT := by
  have G__law_draw : FnOk P w K mg base CX0 (k + 1) D._law_draw.f D._law_draw.fd ["numbers", "many"] spDraw := ok_drawD D
  have G__law_wrapped : FnOk P w K mg base CX0 (k + 2) D._law_wrapped.f D._law_wrapped.fd ["numbers", "loose"] spWrap := ok_wrap D
  have G__law_gap : FnOk P w K mg base CX0 (k + 2) D._law_gap.f D._law_gap.fd ["numbers", "touching"] spGap := ok_gap D
  refine D._law_joint_told.F.ok sc__law_joint_told (fun vs H Q E h => ?_) (fun cdv A outer s H vs Q E hr h => ?_)
  · obtain ⟨a, pl, xs, fs, Z, rfl, _⟩ := h
    rfl
  · obtain ⟨a, pl, xs, fs, Z, rfl, hn, za, npl, hpl, pr, two, hc, q⟩ := h
    have lxf : xs.length = fs.length := pr.length
    have okf : ∀ f ∈ fs, f.ok = true := fun f m => by
      obtain ⟨i, hi, rfl⟩ := List.getElem_of_mem m
      obtain ⟨f, ef, q, lo, _, v, nl, el, hp⟩ := paired_get pr (List.getElem?_eq_getElem (show i < xs.length by omega))
      rw [List.getElem?_eq_getElem hi] at ef
      cases ef
      exact hp.ok
    refine ⟨_, (pss_cons (ps_set (i := 2) sc__law_joint_told.nd rfl (.inl rfl) (pe_ix (r := rIxL K) ix_list (pe_lst (pa_cons pe_str (pa_cons pe_str pa_nil))) (pe_call G__law_draw (hr.mono (by omega)) (by rfl) D._law_draw.g D._law_draw.F.kp D._law_draw.b .nil pass0 (pa_cons (pv 0) (pa_cons pe_int pa_nil))) (fun _ _ => rfl)))
      (pss_cons (ps_set (i := 3) sc__law_joint_told.nd rfl (.inl rfl) pe_str)
      (pss_cons (ps_set (i := 4) sc__law_joint_told.nd rfl (.inl rfl) pe_str)
      (pss_cons (ps_set (i := 5) sc__law_joint_told.nd rfl (.inl rfl) pe_int)
      (pss_cons (ps_set (i := 6) sc__law_joint_told.nd rfl (.inl rfl) (pe_lst pa_nil))
      (pss_cons (ps_set (i := 7) sc__law_joint_told.nd rfl (.inl rfl) (pe_lst pa_nil))
      (pss_cons (ps_for PassesOwn.never rfl (pi_list (pv 1)) (pg_name (i := 8) sc__law_joint_told.nd rfl (.inl rfl)) (pss_cons (ps_set (i := 9) sc__law_joint_told.nd rfl (.inl rfl) (pe_call G__law_wrapped (hr.mono (by omega)) (by rfl) D._law_wrapped.g D._law_wrapped.F.kp D._law_wrapped.b .nil pass0 (pa_cons (pv 0) (pa_cons (pe_ix (r := rIxL K) ix_list (pv 8) pe_int (fun _ _ => rfl)) pa_nil)))) (pss_cons (ps_if (pt_cmpR op_ne (pv 3) pe_str (nomark _)) (pss_cons (ps_set (i := 3) sc__law_joint_told.nd rfl (.inl rfl) (pe_op op_add_str (pe_op op_add_str (pe_op op_add_str (pv 3) pe_str) (pv 2)) pe_str)) (pss_one (ps_set (i := 4) sc__law_joint_told.nd rfl (.inl rfl) (pe_op op_add_str (pe_op op_add_str (pe_op op_add_str (pv 4) (pe_call G__law_gap (hr.mono (by omega)) (by rfl) D._law_gap.g D._law_gap.F.kp D._law_gap.b .nil pass0 (pa_cons (pv 0) (pa_cons (pe_cmpR op_eq (pe_ix (r := rIxS) ix_str (pv 4) (pe_op op_sub (pe_callB call_len (by rfl) D.B.len PySem.boot_len (pa_cons (pv 4) pa_nil)) pe_int) (fun _ _ => rfl)) pe_str (nomark _)) pa_nil)))) (pv 2)) (pe_call G__law_gap (hr.mono (by omega)) (by rfl) D._law_gap.g D._law_gap.F.kp D._law_gap.b .nil pass0 (pa_cons (pv 0) (pa_cons (pe_cmpR op_eq (pe_ix (r := rIxS) ix_str (pv 9) pe_int (fun _ _ => rfl)) pe_str (nomark _)) pa_nil))))))) pss_nil) (pss_cons (ps_set (i := 3) sc__law_joint_told.nd rfl (.inl rfl) (pe_op op_add_str (pv 3) (pe_ix (r := rIxL K) ix_list (pv 8) pe_int (fun _ _ => rfl)))) (pss_cons (ps_set (i := 4) sc__law_joint_told.nd rfl (.inl rfl) (pe_op op_add_str (pv 4) (pv 9))) (pss_cons (ps_set (i := 5) sc__law_joint_told.nd rfl (.inl rfl) (pe_callB (r := rMax2N) (call_max2N rfl) (by rfl) D.B.max (by decide +kernel) (pa_cons (pv 5) (pa_cons (pe_ix (r := rIxL K) ix_list (pv 8) pe_int (fun _ _ => rfl)) pa_nil)))) (pss_cons (ps_set (i := 6) sc__law_joint_told.nd rfl (.inl rfl) (pe_op op_cat (pv 6) (pe_ix (r := rIxL K) ix_list (pv 8) pe_int (fun _ _ => rfl)))) (pss_one (ps_set (i := 7) sc__law_joint_told.nd rfl (.inl rfl) (pe_op op_cat (pv 7) (pe_ix (r := rIxL K) ix_list (pv 8) pe_int (fun _ _ => rfl))))))))))))
      (pss_cons (ps_set (i := 10) sc__law_joint_told.nd rfl (.inl rfl) (pe_tup (pa_cons (pv 2) (pa_cons (pe_callTy call_tuple_of (by rfl) D.B.tuple (by decide +kernel) (pa_cons (pe_lc (own := [("part", 8)]) (g := (gName 8)) (tt := tYes) rfl sc__law_joint_told.nd (pi_list (pv 1)) (blkOk_by (own := [("part", 8)]) (N := n__law_joint_told) (sc := defScope s__law_joint_told) (by decide +kernel)) (fun _ _ _ _ _ => (pg_name (i := 8) sc__law_joint_told.nd rfl (.inl rfl))) (fun _ _ _ _ _ => pts_nil) (fun _ _ _ _ _ => (pe_ix (r := rIxL K) ix_list (pv 8) pe_int (fun _ _ => rfl)))) pa_nil)) pa_nil))))
      (pss_one (ps_ret (pe_lst (pa_cons (pv 10) (pa_cons (pe_op op_add_str (pe_op op_add_str pe_str (pv 3)) pe_str) (pa_cons (pe_op op_add_str (pe_op op_add_str (pe_op op_add_str pe_str (pe_op RG.op_repS pe_str (pe_call G__law_draw (hr.mono (by omega)) (by rfl) D._law_draw.g D._law_draw.F.kp D._law_draw.b .nil pass0 (pa_cons (pv 0) (pa_cons pe_int pa_nil))))) (pv 4)) pe_str) (pa_cons (pe_op (r := rAddN) op_AddN (pv 5) pe_int) (pa_cons (pv 6) (pa_cons (pv 7) pa_nil))))))))))))))))), ?_⟩
    refine ⟨by show 2 ≤ sizeLine; rw [sizeLine_eq]; decide, fun C nC => ?_⟩
    have hCa : C ≠ a := fun e => by
      obtain ⟨l, e2, _⟩ := hn
      rw [e, e2] at nC
      cases nC
    refine ⟨.ref a, rfl, a, 2, rfl, by decide, hn.same (same_upd nC), fun H1 r hr1 s1 n1 => ?_⟩
    have eC := s1 _ _ hCa upd_same
    have s1 := (sameB_of (a := a) (same_upd nC)).trans s1
    obtain ⟨w, em⟩ : ∃ w : Bool, ([V.str (Str.ofString "and"), V.str (Str.ofString "or")])[r]? = some (.str (jK w)) := by
      obtain rfl | rfl : r = 0 ∨ r = 1 := by omega
      · exact ⟨false, rfl⟩
      · exact ⟨true, rfl⟩
    refine ⟨C, _, _, .str (jK w), rfl, rfl, sqL eC, atI_nat em, ?_⟩
    refine ⟨by show 0 ≤ sizeLine; omega, fun nl nn => ⟨by show 0 ≤ sizeLine; omega, fun el ne => ⟨.ref pl, rfl, pl, rfl, ?_⟩⟩⟩
    have off : ∀ b, H1 b = none → H b = none := fun b e => by
      cases hb : H b with
      | none => rfl
      | some o => exact absurd e (s1.dom n1 b (by rw [hb]; simp))
    have q1 : el ≠ nl := fun e => by subst e; rw [upd_same] at ne; cases ne
    have ne0 := ne
    rw [upd_ne q1] at ne0
    have sm : Same H1 (upd (upd H1 nl (.lst [])) el (.lst [])) := fun b o e => by rw [upd_ne (ne_of_none e ne0), upd_ne (ne_of_none e nn)]; exact e
    have s0 := s1.trans (sameB_of (a := a) sm)
    refine ⟨⟨xs, sqL (s0 _ _ npl hpl)⟩, forLs (fun i σ H2 => ∃ c8 c9 c10 lo nl el, σ = [some (.ref a), some (.ref pl), some (.str (jK w)), some (.str (T (joinT w (fs.take i)))), some (.str (T lo)), some (.int (depL (fs.take i) : Nat)), some (.ref nl), some (.ref el), c8, c9, c10] ∧ SameB a H H2 ∧ NumsAt H2 a ∧
      (i = 0 → lo = []) ∧ (0 < i → JOk w lo (fs.take i)) ∧ lo.length ≤ 100 * cntL (fs.take i) ∧ H nl = none ∧ H el = none ∧ H2 nl = some (.lst (txs (nmsL (fs.take i)))) ∧ H2 el = some (.lst (txs (edsL (fs.take i))))) (s0 _ _ npl hpl) ?_ ?_ ?_ ?_⟩
    · exact ⟨_, _, _, [], nl, el, rfl, s0, n1.same sm, fun _ => rfl, fun z => absurd z (by omega), Nat.zero_le _, off _ nn, off _ ne0, by rw [upd_ne q1.symm, upd_same]; rfl, upd_same⟩
    · rintro i σ H2 ⟨c8, c9, c10, lo, nl, el, rfl, s2, _⟩
      exact s2 _ _ npl hpl
    · rintro i x σ H2 hx ⟨c8, c9, c10, lo, nl, el, rfl, s2, n2, i0, ij, il, fn, fe, hnl, hel⟩
      obtain ⟨f, hf, p, lo1, rfl, v, n1', e1', hp⟩ := paired_get pr hx
      have hp2 := hp.keep (s2.offz za) (s2.tups hn)
      have hct : cntL (fs.take (i + 1)) = cntL (fs.take i) + f.cnt := by rw [take_snoc hf, cntL_app]; simp [cntL]
      have hcc := cntL_take fs (i + 1)
      have hll := hp.len
      refine ⟨.ref a, rfl, .ref p, rfl, p, _, _, .str (T lo1), rfl, rfl, sqL hp2.at_, rfl, a, lo1, f, f.dep, rfl, n2, by omega, hp.lok, fun H3 inner s3 n3 lo3 hl3 => ?_⟩
      obtain ⟨c, r, er⟩ : ∃ c r, inner = c :: r := by
        cases inner with
        | nil => exact absurd rfl lo3.1
        | cons c r => exact ⟨c, r, rfl⟩
      refine ⟨_, rfl, rfl, _, rfl, ?_⟩
      have oki : okL (fs.take i) = true := okL_all.mpr fun f m => okf f (List.mem_of_mem_take m)
      have okI : okL (fs.take (i + 1)) = true := okL_all.mpr fun f m => okf f (List.mem_of_mem_take m)
      have jli := joinT_len w _ oki
      have jlI := joinT_len w _ okI
      have hb : (!decide (V.str (T (joinT w (fs.take i))) = V.str (Str.ofString ""))) = decide (0 < i) := by
        rw [strEq, str_emp, ← decide_not]
        refine decide_eq_decide.mpr ?_
        rw [T_iff, joinT_ne w _ oki, List.take_eq_nil_iff]
        have := (List.getElem?_eq_some_iff.mp hf).1
        constructor
        · intro z; omega
        · rintro z (e | e)
          · omega
          · subst e; simp at this
      have tl := txt_len f hp.ok
      have fcnt := hp.len
      have lw := jK_len w
      have lw2 := jL_len w
      have ss := s2.trans s3
      by_cases hi : 0 < i
      case' pos =>
        rw [decide_eq_true hi] at hb
        refine iteTq hb ?_
        obtain ⟨lc, elc⟩ : ∃ lc, lo.getLast? = some lc := by
          obtain ⟨_, _, _, _, _, ne, _⟩ := ij hi
          exact ⟨_, List.getLast?_eq_some_getLast ne⟩
        have lpos : 0 < lo.length := by
          cases lo with
          | nil => cases elc
          | cons _ _ => simp
        refine ⟨_, rfl, _, _, rfl, rfl, by rw [T_len, len_sp, sizeLine_eq]; omega, _, rfl, _, _, rfl, rfl, by rw [lenApp, T_len, len_sp, sizeLine_eq]; omega, _, _, rfl, rfl, by rw [lenApp, lenApp, T_len, len_sp, sizeLine_eq]; omega, ?_⟩
        refine ⟨.str (T lo), rfl, .ref a, rfl, .str (T lo), rfl, .str (T lo), rfl, .str (T lo), lo.length, rfl, ⟨by rw [T_len, sizeLine_eq]; omega, by rw [T_len]⟩, (lo.length : Nat), 1, rfl, rfl, T lo, _, lc, rfl, rfl, by rw [T_len, sizeLine_eq]; omega, ?_, rfl, a, _, rfl, n3, fun H5 n s5 n5 hn5 hg5 => ?_⟩
        · rw [T_list, show ((lo.length : Nat) : Int) - 1 = ((lo.length - 1 : Nat) : Int) by omega]
          refine atI_nat ?_
          rw [List.getLast?_eq_getElem?] at elc
          exact elc
        rw [dec_rb] at hg5
        refine ⟨_, _, rfl, rfl, by simp only [T_len, spn, List.length_replicate]; rw [sizeLine_eq]; omega, .str (jK w), rfl, _, _, rfl, rfl, by simp only [lenApp, T_len, spn, List.length_replicate]; rw [sizeLine_eq]; omega, ?_⟩
        refine ⟨.ref a, rfl, .str (T inner), rfl, T inner, 0, c, rfl, rfl, by rw [T_len, sizeLine_eq]; omega, by rw [T_list, er]; exact atI_nat (j := 0) rfl, rfl, a, _, rfl, n5, fun H4 m s4 n4 hm4 hg4 => ?_⟩
        rw [dec_lb] at hg4
        refine ⟨_, _, rfl, rfl, by simp only [lenApp, T_len, spn, List.length_replicate]; rw [sizeLine_eq]; omega, ?_⟩
        have ss := ss.trans (s5.trans s4)
        have s24 := s3.trans (s5.trans s4)
        have hp4 := (hp2.keep (s3.offz za) (s3.tups n2)).keep ((s5.trans s4).offz za) ((s5.trans s4).tups n3)
        obtain ⟨tx3, etx⟩ : ∃ tx3 : List Nat, T (joinT w (fs.take i)) ++ Str.ofString " " ++ jK w ++ Str.ofString " " = T tx3 ∧ tx3 ++ f.txt = joinT w (fs.take (i + 1)) := by
          refine ⟨joinT w (fs.take i) ++ (32 :: (jL w ++ [32])), by rw [str_spT, jK_T]; simp [T_app], ?_⟩
          rw [take_snoc hf, joinT_snoc _ _ _ (by
            intro z
            rw [z] at ij
            obtain ⟨_, _, _, _, e, _⟩ := ij hi
            cases e)]
        obtain ⟨lo4, elo⟩ : ∃ lo4 : List Nat, T lo ++ T (spn n) ++ jK w ++ T (spn m) = T lo4 ∧ JOk w (lo4 ++ inner) (fs.take (i + 1)) ∧ lo4.length + inner.length ≤ 100 * cntL (fs.take (i + 1)) := by
          refine ⟨lo ++ (spn n ++ (jL w ++ spn m)), by rw [jK_T]; simp [T_app], ?_, by simp only [List.length_append, spn, List.length_replicate]; omega⟩
          have := j_more (n := n) (m := m) (ij hi) lo3 (hg5.imp id fun e => by rw [elc]; exact congrArg some (of_decide_eq_true e)) (hg4.imp id fun e => by rw [er]; exact congrArg some (of_decide_eq_true e))
          rw [take_snoc hf]
          simpa only [List.append_assoc] using this
        rw [etx.1, elo.1]
      case' neg =>
        have e0 : i = 0 := by omega
        rw [decide_eq_false hi] at hb
        refine iteFq hb ?_
        obtain ⟨H4, e4⟩ : ∃ H4, H4 = H3 := ⟨_, rfl⟩
        rw [← e4]
        have s4 : SameB a H3 H4 := e4 ▸ SameB.refl
        have n4 : NumsAt H4 a := e4 ▸ n3
        have ss := ss.trans s4
        have s24 := s3.trans s4
        have hp4 := (hp2.keep (s3.offz za) (s3.tups n2)).keep (s4.offz za) (s4.tups n3)
        obtain ⟨tx3, etx⟩ : ∃ tx3 : List Nat, T (joinT w (fs.take i)) = T tx3 ∧ tx3 ++ f.txt = joinT w (fs.take (i + 1)) := by
          refine ⟨[], by rw [e0]; rfl, ?_⟩
          rw [take_snoc hf, e0]; simp [joinT, moreT]
        obtain ⟨lo4, elo⟩ : ∃ lo4 : List Nat, T lo = T lo4 ∧ JOk w (lo4 ++ inner) (fs.take (i + 1)) ∧ lo4.length + inner.length ≤ 100 * cntL (fs.take (i + 1)) := by
          refine ⟨[], by rw [i0 e0], ?_, by simp only [List.length_nil]; omega⟩
          rw [take_snoc hf, e0]
          exact j_one w lo3
        rw [etx.1, elo.1]
      all_goals
        have ltx : tx3.length ≤ 20000 := by have := congrArg List.length etx.2; rw [List.length_append] at this; omega
        have hl4 := elo.2.2
        refine ⟨_, rfl, .ref p, rfl, p, _, _, .str (T f.txt), rfl, rfl, sqL hp4.at_, rfl, _, _, rfl, rfl, by rw [T_len, T_len, sizeLine_eq]; omega, ?_⟩
        refine ⟨_, rfl, _, rfl, _, _, rfl, rfl, by rw [T_len, T_len, sizeLine_eq]; omega, ?_⟩
        refine ⟨_, rfl, .ref p, rfl, p, _, _, .int (f.dep : Nat), rfl, rfl, sqL hp4.at_, rfl, depL (fs.take i), f.dep, rfl, ?_⟩
        have nla : ∀ b, H b = none → b ≠ a := fun b e z => by
          subst z
          obtain ⟨l, e2, _⟩ := hn
          rw [e] at e2; cases e2
        have hnl4 := s24 _ _ (nla _ fn) hnl
        have hel4 := s24 _ _ (nla _ fe) hel
        have ln1 := lvs_len f
        have ln2 := lvsL_len (fs.take i)
        have lc1 : f.cnt ≤ 200 := by omega
        have lc2 : cntL (fs.take i) ≤ 200 := by omega
        refine ⟨_, rfl, .ref p, rfl, p, _, _, .ref n1', rfl, rfl, sqL hp4.at_, rfl, nl, n1', _, _, rfl, rfl, hnl4, hp4.nm, by unfold txs; rw [List.length_map, List.length_map, sizeLine_eq]; omega, fun nl2 nn2 => ?_⟩
        have up2 := same_upd (o := .lst (txs (nmsL (fs.take i)) ++ txs f.nms)) nn2
        refine ⟨_, rfl, .ref p, rfl, p, _, _, .ref e1', rfl, rfl, sqL (up2 _ _ hp4.at_), rfl, el, e1', _, _, rfl, rfl, up2 _ _ hel4, up2 _ _ hp4.ed, by unfold txs; rw [List.length_map, List.length_map, sizeLine_eq]; omega, fun el2 ne2 => ?_⟩
        have qq : el2 ≠ nl2 := fun e => by subst e; rw [upd_same] at ne2; cases ne2
        have ne3 := ne2
        rw [upd_ne qq] at ne3
        have off4 : ∀ b, H4 b = none → H b = none := fun b e => by
          cases hb : H b with
          | none => rfl
          | some o => exact absurd e (ss.dom n4 b (by rw [hb]; simp))
        have sm2 : Same H4 (upd (upd H4 nl2 (.lst (txs (nmsL (fs.take i)) ++ txs f.nms))) el2 (.lst (txs (edsL (fs.take i)) ++ txs f.eds))) := fun b o e => by
          rw [upd_ne (ne_of_none e ne3), upd_ne (ne_of_none e nn2)]; exact e
        refine ⟨some (.ref p), some (.str (T inner)), c10, lo4 ++ inner, nl2, el2, ?_, ss.trans (sameB_of sm2), n4.same sm2, fun z => absurd z (by omega), fun _ => elo.2.1, by rw [List.length_append]; exact hl4, off4 _ nn2, off4 _ ne3, ?_, ?_⟩
        · rw [← etx.2, take_snoc hf, depL_snoc, ← T_app, ← T_app]
          rfl
        · rw [upd_ne qq.symm, upd_same, take_snoc hf, nmsL_snoc]
          unfold txs; rw [List.map_append]
        · rw [upd_same, take_snoc hf, edsL_snoc]
          unfold txs; rw [List.map_append]
    · rintro σ H2 ⟨c8, c9, c10, lo, nl, el, rfl, s2, n2, _, ij, il, fn, fe, hnl, hel⟩
      simp only [lxf, List.take_length] at ij il hnl hel ⊢
      have jl := joinT_len w fs (okL_all.mpr okf)
      refine ⟨_, rfl, .ref pl, rfl, pl, rfl, ?_⟩
      have hpl2 := s2 _ _ npl hpl
      refine ⟨⟨xs, sqL hpl2⟩, lcLst (fun i H x => ∃ f, fs[i]? = some f ∧ Dh H x f.data) (fun i H H' x s ⟨f, e, h⟩ => ⟨f, e, h.same s⟩) (fun D i H x us ys e _ ⟨f, e2, h⟩ => ⟨f, e2, h.tups (fun b zs z => by rw [upd_ne (fun w => by rw [w, e] at z; cases z)]; exact z) _ _ (noL_data f)⟩) hpl2 (by have := lvsL_cnt fs; have : fs.length ≤ cntL fs := len_cnt fs; omega) (fun Dl i y H3 Qk Qn hy s3 nDl eDl hk => ⟨rfl, iteT (B := Qn H3) ?_⟩) (fun Dl H3 ts nDl s3 eDl pu => ?_)⟩
      · obtain ⟨f, hf, p, lo1, rfl, v, n1', e1', hp⟩ := paired_get pr hy
        have hp2 := (hp.keep (s2.offz za) (s2.tups hn)).keep (fun b o _ e => s3 b o e) (Same.tups s3)
        exact ⟨.ref p, rfl, p, _, _, v, rfl, rfl, sqL hp2.at_, rfl, hk _ _ ⟨f, hf, hp2.dh⟩ (Same.refl _)⟩
      · have dts : ∀ H', Same H3 H' → DhAll H' ts (dataL fs) := fun H' s' => dhAll_get ts fs (by rw [pu.length, List.length_range, lxf]) fun i x f e1 e2 => by
          obtain ⟨j, ej, f2, ef2, h⟩ := paired_get pu e1
          obtain ⟨_, rfl⟩ : j < xs.length ∧ i = j := by
            obtain ⟨hj, ej⟩ := List.getElem?_eq_some_iff.mp ej
            rw [List.getElem_range] at ej
            rw [List.length_range] at hj
            subst ej; exact ⟨hj, rfl⟩
          rw [e2] at ef2
          cases ef2
          exact h.same s'
        refine ⟨_, ts, rfl, .inl ⟨sqL eDl, fun t1 nt1 => ⟨by show 2 ≤ sizeLine; rw [sizeLine_eq]; decide, fun t2 nt2 => ?_⟩⟩⟩
        have qt : t2 ≠ t1 := fun e => by subst e; rw [upd_same] at nt2; cases nt2
        have nt3 := nt2
        rw [upd_ne qt] at nt3
        have sm : Same H3 (upd (upd H3 t1 (.tup ts)) t2 (.tup [.str (jK w), .ref t1])) := fun b o e => by rw [upd_ne (ne_of_none e nt3), upd_ne (ne_of_none e nt1)]; exact e
        have dF : Dh (upd (upd H3 t1 (.tup ts)) t2 (.tup [.str (jK w), .ref t1])) (.ref t2) (Fm.joint w fs).data := .tup upd_same (.cons (.str _) (.cons (.tup (by rw [upd_ne qt.symm, upd_same]) (dts _ sm)) .nil))
        have sA := s3.trans sm
        generalize upd (upd H3 t1 (.tup ts)) t2 (.tup [.str (jK w), .ref t1]) = H4 at sm dF sA
        have n4 := n2.same sA
        have lll : lo.length ≤ 20000 := by omega
        refine ⟨_, rfl, _, rfl, _, _, rfl, rfl, by rw [len_lb, T_len, sizeLine_eq]; omega, _, _, rfl, rfl, by rw [lenApp, len_lb, len_rb, T_len, sizeLine_eq]; omega, ?_⟩
        refine ⟨.ref a, rfl, a, 2, rfl, by decide, n4, fun H5 r5 hr5 s5 n5 => ⟨_, r5, rfl, rfl, by omega, by decide, fun b eb => ?_⟩⟩
        obtain rfl : b = T (spn r5) := T_eq (eb.trans (repl_sp r5))
        refine ⟨_, _, rfl, rfl, by simp only [T_len, spn, List.length_replicate, len_lb]; rw [sizeLine_eq]; omega, _, rfl, _, _, rfl, rfl, by simp only [lenApp, T_len, spn, List.length_replicate, len_lb]; rw [sizeLine_eq]; omega, _, _, rfl, rfl, by simp only [lenApp, T_len, spn, List.length_replicate, len_lb, len_rb]; rw [sizeLine_eq]; omega, ?_⟩
        refine ⟨_, rfl, depL fs, 1, rfl, rfl, _, rfl, _, rfl, by show 6 ≤ sizeLine; rw [sizeLine_eq]; decide, fun p' np => ?_⟩
        have ss := s2.trans ((sameB_of (a := a) sA).trans s5)
        have nla : ∀ b, H b = none → b ≠ a := fun b e z => by
          subst z
          obtain ⟨l, e2, _⟩ := hn
          rw [e] at e2; cases e2
        have up := same_upd (o := .lst [.ref t2, .str (Str.ofString "(" ++ T (joinT w fs) ++ Str.ofString ")"), .str (Str.ofString "(" ++ T (spn r5) ++ T lo ++ Str.ofString ")"), .int ((depL fs + 1 : Nat) : Int), .ref nl, .ref el]) np
        have off5 : ∀ b, H5 b = none → H b = none := fun b e => by
          cases hb : H b with
          | none => rfl
          | some o => exact absurd e (ss.dom n5 b (by rw [hb]; simp))
        have lok := j_end r5 (ij (by omega)) two
        refine q p' _ w (40 :: (spn r5 ++ (lo ++ [41]))) (ss.trans (sameB_of up)) (n5.same up) ⟨.ref t2, nl, el, ⟨?_, (dF.tups (s5.tups n4) _ _ (noL_data _)).same up, up _ _ (s5 _ _ (nla _ fn) (sA _ _ hnl)), up _ _ (s5 _ _ (nla _ fe) (sA _ _ hel)), ⟨fun z => z (off5 _ np), fun z => z fn, fun z => z fe⟩, by simp only [Fm.ok, Bool.and_eq_true, decide_eq_true_eq]; exact ⟨two, okL_all.mpr okf⟩, lok, ?_⟩⟩
        · rw [upd_same, show Str.ofString "(" ++ T (joinT w fs) ++ Str.ofString ")" = T (Fm.joint w fs).txt by rw [str_lbT, str_rbT]; simp [T_app, Fm.txt], show Str.ofString "(" ++ T (spn r5) ++ T lo ++ Str.ofString ")" = T (40 :: (spn r5 ++ (lo ++ [41]))) by rw [str_lbT, str_rbT]; simp [T_app]]
          rfl
        · simp only [List.length_append, List.length_cons, List.length_nil, spn, List.length_replicate, Fm.cnt]; omega
end
end K7

set_option Elab.async false
set_option linter.all false
set_option maxRecDepth 100000
set_option maxHeartbeats 4000000
namespace K7
open PySem PySem.Spec PyProof.Rows L2 GX NdefX
/-- [e for i in range(n)], where what stands is changed -/
theorem lcRngM {n : Nat} {g : TG} {te : TE} {vs : List Nat} {σ : L2.St} {H1 : Hp} {Q : Addr → Hp → Prop} (Iv : Addr → Nat → List V → Hp → Prop) (hn : n ≤ 4000)
    (h0 : ∀ D, H1 D = none → Iv D 0 [] (upd H1 D (.lst []))) (hD : ∀ D i us H, Iv D i us H → H D = some (.lst us) ∧ us.length = i)
    (turn : ∀ (D : Addr) (i : Nat) (us : List V) (H : Hp) (Qk : VK) (Qn : Hp → Prop), i < n → H1 D = none → Iv D i us H → (∀ y H4, H4 D = some (.lst us) → Iv D (i + 1) (us ++ [y]) (upd H4 D (.lst (us ++ [y]))) → Qk y H4) →
      g (.int (i : Nat)) (wipe σ vs) H fun σ2 H2 => wipe σ2 vs = wipe σ vs ∧ tYes σ2 H2 fun b H3 => if b = true then te σ2 H3 Qk else Qn H3)
    (done : ∀ D us H, H1 D = none → Iv D n us H → Q D H) : LcD (Itr 0 n) g tYes te vs σ H1 Q := by
  refine fun D nD => ⟨fun i m H => m = n - i ∧ i ≤ n ∧ ∃ us, Iv D i us H, ⟨n, rfl, Nat.zero_le _, [], h0 D nD⟩, ?_⟩
  rintro i m H ⟨rfl, hi, us, iv⟩
  obtain ⟨eD, hl⟩ := hD D i us H iv
  by_cases hlt : i < n
  · refine .inr ⟨hlt, fun H' => ∃ us, Iv D (i + 1) us H', fun H' p => ⟨n - (i + 1), by omega, rfl, hlt, p⟩, fun x H' y => ?_⟩
    obtain ⟨rfl, rfl⟩ := y
    rw [Int.zero_add]
    exact turn D i us _ _ _ hlt nD iv fun y H4 e4 iv4 => ⟨us, e4, by rw [hl, sizeLine_eq]; omega, _, iv4⟩
  · obtain rfl : i = n := by omega
    exact .inl ⟨Nat.le_refl _, done D us H nD iv⟩
theorem PartX.off {H : Hp} {Z : Addr → Prop} {p D : Addr} {f : Fm} {lo : List Nat} (h : PartX H Z p f lo) (n : H D = none) : PartX H (fun b => Z b ∨ b = D) p f lo := by
  obtain ⟨v, nl, el, h⟩ := h
  have k : ∀ b o, H b = some o → b ≠ D := fun b o e z => by subst z; rw [e] at n; cases n
  exact ⟨v, nl, el, { h with nz := ⟨fun z => z.elim h.nz.1 (k _ _ h.at_), fun z => z.elim h.nz.2.1 (k _ _ h.nm), fun z => z.elim h.nz.2.2 (k _ _ h.ed)⟩ }⟩
def PartL (H : Hp) (Z : Addr → Prop) (xs : List V) (fs : List Fm) : Prop := Paired (fun (x : V) (f : Fm) => ∃ q lo, x = .ref q ∧ PartX H Z q f lo) xs fs
theorem PartL.keep {H H' : Hp} {Z : Addr → Prop} {xs : List V} {fs : List Fm} (h : PartL H Z xs fs) (s : ∀ b o, ¬ Z b → H b = some o → H' b = some o) (t : TupK H H') : PartL H' Z xs fs := by
  refine paired_imp (fun x f ⟨q, lo, e, p⟩ => ⟨q, lo, e, p.keep s t⟩) h
theorem tupK_upd {H : Hp} {D : Addr} {us ys : List V} (e : H D = some (.lst us)) : TupK H (upd H D (.lst ys)) := fun b xs z => by
  rw [upd_ne (fun w => by subst w; rw [e] at z; cases z)]; exact z
def spGrown : Sp := fun vs H Q _ => ∃ (a na : Addr) (zs : List Str), vs = [.ref a, .ref na] ∧ H na = some (.lst (txs zs)) ∧ na ≠ a ∧ 1 ≤ zs.length ∧ zs.length ≤ 1000 ∧ (∀ z ∈ zs, nameB z = true) ∧ NumsAt H a ∧
  ∀ p H' f lo, SameB a H H' → NumsAt H' a → PartX H' (fun b => H b ≠ none) p f lo → f.cnt ≤ 31 → Q (.ref p) H'
section
variable {P : Program} {w : World} {K : PySem.W.Frag} {mg : Str → Option Value} {base : Heap}
theorem ok_grown {k : Nat} (D : Pr P K mg) : FnOk P w K mg base CX0 (k + 4) D._law_grown.f D._law_grown.fd ["numbers", "names"] spGrown := by
  have G__law_draw : FnOk P w K mg base CX0 (k + 1) D._law_draw.f D._law_draw.fd ["numbers", "many"] spDraw := ok_drawD D
  have G__law_leaf_told : FnOk P w K mg base CX0 (k + 2) D._law_leaf_told.f D._law_leaf_told.fd ["numbers", "names"] spLeafT := ok_leaft D
  have G__law_not_told : FnOk P w K mg base CX0 (k + 3) D._law_not_told.f D._law_not_told.fd ["numbers", "part", "bare"] spNotT := ok_nott D
  have G__law_joint_told : FnOk P w K mg base CX0 (k + 3) D._law_joint_told.f D._law_joint_told.fd ["numbers", "parts"] spJointT := ok_jointt D
  refine D._law_grown.F.ok sc__law_grown (fun vs H Q E h => ?_) (fun cdv A outer s H vs Q E hr h => ?_)
  · obtain ⟨a, na, zs, rfl, _⟩ := h
    rfl
  · obtain ⟨a, na, zs, rfl, ena, hna, h1, h2, hz, hn, q⟩ := h
    have hza : H a ≠ none := by
      obtain ⟨l, e2, _⟩ := hn
      rw [e2]; simp
    refine ⟨_, (pss_cons (ps_set (i := 2) sc__law_grown.nd rfl (.inl rfl) (pe_call G__law_leaf_told (hr.mono (by omega)) (by rfl) D._law_leaf_told.g D._law_leaf_told.F.kp D._law_leaf_told.b .nil pass0 (pa_cons (pv 0) (pa_cons (pv 1) pa_nil))))
      (pss_cons (ps_for PassesOwn.never rfl (pi_range1 (by rfl) D.B.range (pa_cons (pe_ix (r := rIxL K) ix_list (pe_lst (pa_cons pe_int (pa_cons pe_int (pa_cons pe_int (pa_cons pe_int (pa_cons pe_int (pa_cons pe_int pa_nil))))))) (pe_call G__law_draw (hr.mono (by omega)) (by rfl) D._law_draw.g D._law_draw.F.kp D._law_draw.b .nil pass0 (pa_cons (pv 0) (pa_cons pe_int pa_nil))) (fun _ _ => rfl)) pa_nil)) (pg_name (i := 3) sc__law_grown.nd rfl (.inl rfl)) (pss_one (ps_if (pt_cmpR op_eq (pe_call G__law_draw (hr.mono (by omega)) (by rfl) D._law_draw.g D._law_draw.F.kp D._law_draw.b .nil pass0 (pa_cons (pv 0) (pa_cons pe_int pa_nil))) pe_int (nomark _)) (pss_one (ps_set (i := 2) sc__law_grown.nd rfl (.inl rfl) (pe_call G__law_not_told (hr.mono (by omega)) (by rfl) D._law_not_told.g D._law_not_told.F.kp D._law_not_told.b .nil pass0 (pa_cons (pv 0) (pa_cons (pv 2) (pa_cons pe_bl pa_nil)))))) (pss_cons (ps_setLc (i := 4) (own := [("k", 5)]) (g := (gName 5)) (tt := tYes) rfl sc__law_grown.nd rfl rfl (sw_true rfl rfl rfl (by decide +kernel)) (pi_range1 (by rfl) D.B.range (pa_cons (pe_ix (r := rIxL K) ix_list (pe_lst (pa_cons pe_int (pa_cons pe_int (pa_cons pe_int (pa_cons pe_int pa_nil))))) (pe_call G__law_draw (hr.mono (by omega)) (by rfl) D._law_draw.g D._law_draw.F.kp D._law_draw.b .nil pass0 (pa_cons (pv 0) (pa_cons pe_int pa_nil))) (fun _ _ => rfl)) pa_nil)) (blkOk_by (own := [("k", 5)]) (N := n__law_grown) (sc := defScope s__law_grown) (by decide +kernel)) (fun _ _ _ _ _ => (pg_name (i := 5) sc__law_grown.nd rfl (.inl rfl))) (fun _ _ _ _ _ => pts_nil) (fun _ _ _ _ _ => (pe_call G__law_leaf_told (hr.mono (by omega)) (by rfl) D._law_leaf_told.g D._law_leaf_told.F.kp D._law_leaf_told.b .nil pass0 (pa_cons (pv 0) (pa_cons (pv 1) pa_nil))))) (pss_cons (ps_if (pt_cmpR op_eq (pe_call G__law_draw (hr.mono (by omega)) (by rfl) D._law_draw.g D._law_draw.F.kp D._law_draw.b .nil pass0 (pa_cons (pv 0) (pa_cons pe_int pa_nil))) pe_int (nomark _)) (pss_one (ps_asg (pe_call G__law_not_told (hr.mono (by omega)) (by rfl) D._law_not_told.g D._law_not_told.F.kp D._law_not_told.b .nil pass0 (pa_cons (pv 0) (pa_cons (pe_ix (r := rIxL K) ix_list (pv 4) pe_int (fun _ _ => rfl)) (pa_cons pe_bl pa_nil)))) (pg_sub (pv 4) pe_int set_list))) pss_nil) (pss_cons (ps_expr (pe_bm PySem.F.plainAttrs_list PySem.F.slot_list_insert PySem.F.type_list_insert mt_insert (pv 4) (pa_cons (pe_call G__law_draw (hr.mono (by omega)) (by rfl) D._law_draw.g D._law_draw.F.kp D._law_draw.b .nil pass0 (pa_cons (pv 0) (pa_cons (pe_op (r := rAddN) op_AddN (pe_callB call_len (by rfl) D.B.len PySem.boot_len (pa_cons (pv 4) pa_nil)) pe_int) pa_nil))) (pa_cons (pv 2) pa_nil)))) (pss_one (ps_set (i := 2) sc__law_grown.nd rfl (.inl rfl) (pe_call G__law_joint_told (hr.mono (by omega)) (by rfl) D._law_joint_told.g D._law_joint_told.F.kp D._law_joint_told.b .nil pass0 (pa_cons (pv 0) (pa_cons (pv 4) pa_nil)))))))))))
      (pss_one (ps_ret (pv 2))))), ?_⟩
    refine ⟨.ref a, rfl, .ref na, rfl, a, na, zs, rfl, ena, hna, h1, h2, hz, hn, fun p H1 f lo s1 n1 hp hc => ?_⟩
    refine ⟨by show 6 ≤ sizeLine; rw [sizeLine_eq]; decide, fun C nC => ?_⟩
    have hCa : C ≠ a := fun e => by
      obtain ⟨l, e2, _⟩ := n1
      rw [e, e2] at nC
      cases nC
    refine ⟨.ref a, rfl, a, 6, rfl, by decide, n1.same (same_upd nC), fun H2 r hr2 s2 n2 => ?_⟩
    have eC := s2 _ _ hCa upd_same
    have s2 := (sameB_of (a := a) (same_upd nC)).trans s2
    have hp := hp.keep (s2.offz hza) (s2.tups n1)
    have s2 := s1.trans s2
    obtain ⟨m, hm, em⟩ : ∃ m : Nat, m ≤ 6 ∧ ([V.int 0, V.int 1, V.int 2, V.int 3, V.int 4, V.int 6])[r]? = some (.int (m : Nat)) := by
      obtain rfl | rfl | rfl | rfl | rfl | rfl : r = 0 ∨ r = 1 ∨ r = 2 ∨ r = 3 ∨ r = 4 ∨ r = 5 := by omega
      · exact ⟨0, by omega, rfl⟩
      · exact ⟨1, by omega, rfl⟩
      · exact ⟨2, by omega, rfl⟩
      · exact ⟨3, by omega, rfl⟩
      · exact ⟨4, by omega, rfl⟩
      · exact ⟨6, by omega, rfl⟩
    refine ⟨C, _, _, .int (m : Nat), rfl, rfl, sqL eC, atI_nat em, ?_⟩
    refine ⟨(m : Nat), rfl, by omega, by omega, ?_⟩
    refine forRg (n := m) (fun i σ H2 => ∃ p c3 c4 c5 f lo, σ = [some (.ref a), some (.ref na), some (.ref p), c3, c4, c5] ∧ SameB a H H2 ∧ NumsAt H2 a ∧ PartX H2 (fun b => H b ≠ none) p f lo ∧ f.cnt ≤ 1 + 5 * i) ⟨p, _, _, _, f, lo, rfl, s2, n2, hp, by omega⟩ ?_ ?_
    · clear hp hc em eC nC s1 n1 s2 n2 hCa
      rintro i σ H2 hi ⟨p, c3, c4, c5, f, lo, rfl, s2, n2, hp, hc⟩
      refine ⟨.ref a, rfl, a, 5, rfl, by decide, n2, fun H3 r3 hr3 s3 n3 => ?_⟩
      have hp := hp.keep (s3.offz hza) (s3.tups n2)
      have ss := s2.trans s3
      refine ⟨rfl, _, rfl, ?_⟩
      by_cases e4 : r3 = 4
      · subst e4
        refine iteT ⟨.ref a, rfl, .ref p, rfl, a, p, false, f, lo, _, rfl, n3, hza, fun b z => ss.dom n3 b z, hp, by omega, fun p2 H4 lo2 s4 n4 hp4 => ?_⟩
        exact ⟨p2, _, _, _, .not f, lo2, rfl, ss.trans s4, n4, hp4, by simp only [Fm.cnt]; omega⟩
      rw [decide_eq_false (fun e => e4 (by have := V.int.inj e; omega))]
      refine iteF ⟨by show 4 ≤ sizeLine; rw [sizeLine_eq]; decide, fun C nC => ?_⟩
      have hCa : C ≠ a := fun e => by
        obtain ⟨l, e2, _⟩ := n3
        rw [e, e2] at nC
        cases nC
      refine ⟨.ref a, rfl, a, 4, rfl, by decide, n3.same (same_upd nC), fun H4 r4 hr4 s4 n4 => ?_⟩
      have eC := s4 _ _ hCa upd_same
      have s4 := (sameB_of (a := a) (same_upd nC)).trans s4
      have hp := hp.keep (s4.offz hza) (s4.tups n3)
      have ss := ss.trans s4
      obtain ⟨j, hj1, hj, ej⟩ : ∃ j : Nat, 1 ≤ j ∧ j ≤ 3 ∧ ([V.int 1, V.int 1, V.int 2, V.int 3])[r4]? = some (.int (j : Nat)) := by
        obtain rfl | rfl | rfl | rfl : r4 = 0 ∨ r4 = 1 ∨ r4 = 2 ∨ r4 = 3 := by omega
        · exact ⟨1, by omega, by omega, rfl⟩
        · exact ⟨1, by omega, by omega, rfl⟩
        · exact ⟨2, by omega, by omega, rfl⟩
        · exact ⟨3, by omega, by omega, rfl⟩
      refine ⟨C, _, _, .int (j : Nat), rfl, rfl, sqL eC, atI_nat ej, ?_⟩
      refine ⟨(j : Nat), rfl, by omega, by omega, ?_⟩
      refine lcRngM (n := j) (fun pl i us H5 => H5 pl = some (.lst us) ∧ us.length = i ∧ H4 pl = none ∧ NumsAt H5 a ∧ (∀ b o, b ≠ a → b ≠ pl → H4 b = some o → H5 b = some o) ∧ TupK H4 H5 ∧ ∃ fs, PartL H5 (fun b => H b ≠ none ∨ b = pl) us fs ∧ ∀ f ∈ fs, f.cnt = 1) (by omega) ?_ ?_ ?_ ?_
      · intro pl npl
        exact ⟨upd_same, rfl, npl, n4.same (same_upd npl), fun b o _ n e => by rw [upd_ne n]; exact e, Same.tups (same_upd npl), [], .nil, fun f m => by simp at m⟩
      · rintro pl i us H5 ⟨e, l, _⟩
        exact ⟨e, l⟩
      · rintro pl i us H5 Qk Qn hi npl ⟨e5, l5, _, n5, k5, t5, fs, hfs, cfs⟩ hk
        refine ⟨rfl, iteT (B := Qn H5) ⟨.ref a, rfl, .ref na, rfl, a, na, zs, rfl, k5 _ _ hna (fun e => by subst e; rw [ss _ _ hna ena] at npl; cases npl) (ss _ _ hna ena), hna, h1, h2, hz, n5, fun p6 H6 f6 lo6 s6 n6 hp6 hc6 => ?_⟩⟩
        have pla : pl ≠ a := fun e => by
          subst e
          obtain ⟨l, e2, _⟩ := n4
          rw [npl] at e2; cases e2
        have d5 : ∀ b, H b ≠ none ∨ b = pl → H5 b ≠ none := fun b z => by
          rcases z with z | z
          · have z4 := ss.dom n4 b z
            by_cases q1 : b = a
            · subst q1
              obtain ⟨l, e2, _⟩ := n5
              rw [e2]; simp
            · cases hb : H4 b with
              | none => exact absurd hb z4
              | some o => rw [k5 b o q1 (fun e => by subst e; rw [npl] at hb; cases hb) hb]; simp
          · subst z; rw [e5]; simp
        have e6 := s6 _ _ pla e5
        refine hk _ _ e6 ⟨upd_same, by rw [List.length_append, l5]; rfl, npl, ?_, fun b o n1 n2 e => by rw [upd_ne n2]; exact s6 _ _ n1 (k5 b o n1 n2 e), fun b xs e => tupK_upd e6 b xs (s6.tups n5 b xs (t5 b xs e)), fs ++ [f6], ?_, fun g m => ?_⟩
        · obtain ⟨l, e2, hl⟩ := n6
          exact ⟨l, by rw [upd_ne pla.symm]; exact e2, hl⟩
        · refine PartL.keep (H := H6) (paired_snoc (hfs.keep (s6.offz (.inl hza)) (s6.tups n5)) ⟨p6, lo6, rfl, hp6.mono d5⟩) (fun b o z e => by rw [upd_ne (fun w => z (.inr w))]; exact e) (tupK_upd e6)
        · rcases List.mem_append.mp m with m | m
          · exact cfs g m
          · rw [List.mem_singleton] at m
            subst m; exact hc6
      · rintro pl us H5 npl ⟨e5, l5, _, n5, k5, t5, fs, hfs, cfs⟩
        have pla : pl ≠ a := fun e => by
          subst e
          obtain ⟨l, e2, _⟩ := n4
          rw [npl] at e2; cases e2
        have s5 : SameB a H H5 := fun b o n e => k5 b o n (fun z => by subst z; rw [ss _ _ n e] at npl; cases npl) (ss b o n e)
        have d5 : ∀ b, H b ≠ none ∨ b = pl → H5 b ≠ none := fun b z => z.elim (s5.dom n5 b) fun z => by subst z; rw [e5]; simp
        have hp := (hp.off npl).keep (fun b o z e => k5 b o (fun w => z (.inl (w ▸ hza))) (fun w => z (.inr w)) e) t5
        have lfs := hfs.length
        obtain ⟨x0, ux, rfl⟩ : ∃ x0 ux, us = x0 :: ux := by
          cases us with
          | nil => simp at l5; omega
          | cons x0 ux => exact ⟨x0, ux, rfl⟩
        obtain ⟨f0, fr, rfl, hf0, hfr⟩ : ∃ f0 fr, fs = f0 :: fr ∧ (∃ q lo, x0 = V.ref q ∧ PartX H5 (fun b => H b ≠ none ∨ b = pl) q f0 lo) ∧ PartL H5 (fun b => H b ≠ none ∨ b = pl) ux fr := by
          cases hfs with
          | cons h t => exact ⟨_, _, rfl, h, t⟩
        obtain ⟨p0, lo0, rfl, hp0⟩ := hf0
        have cf0 := cfs f0 List.mem_cons_self
        have cfr : cntL fr ≤ 2 := by
          have : ∀ l : List Fm, (∀ f ∈ l, f.cnt = 1) → cntL l = l.length := by
            intro l
            induction l with
            | nil => intro _; rfl
            | cons g r ih => intro h; rw [cntL, h g List.mem_cons_self, ih fun f m => h f (List.mem_cons_of_mem _ m), List.length_cons]; omega
          rw [this fr fun f m => cfs f (List.mem_cons_of_mem _ m)]
          simp only [List.length_cons] at lfs l5
          omega
        refine ⟨.ref a, rfl, a, 3, rfl, by decide, n5, fun H6 r6 hr6 s6 n6 => ?_⟩
        refine ⟨rfl, _, rfl, ?_⟩
        have e6 := s6 _ _ pla e5
        have hp6 := hp.keep (s6.offz (.inl hza)) (s6.tups n5)
        have hp06 := hp0.keep (s6.offz (.inl hza)) (s6.tups n5)
        have hfr6 := hfr.keep (s6.offz (.inl hza)) (s6.tups n5)
        have za : H a ≠ none ∨ a = pl := .inl hza
        by_cases e2 : r6 = 2
        case' pos =>
          subst e2
          refine iteT ⟨.ref a, rfl, .ref pl, rfl, pl, _, _, .ref p0, rfl, rfl, sqL e6, atI_nat (j := 0) rfl, a, p0, false, f0, lo0, _, rfl, n6, za, fun b z => s6.dom n6 b (d5 b z), hp06, by omega, fun p7 H7 lo7 s7 n7 hp7 => ?_⟩
          have e7 := s7 _ _ pla e6
          refine ⟨.ref pl, rfl, pl, _, 0, 0, rfl, rfl, e7, ixN_nat (i := 0) (by simp), ?_⟩
          obtain ⟨H8, eH8⟩ : ∃ H8, H8 = upd H7 pl (.lst ((V.ref p0 :: ux).set 0 (.ref p7))) := ⟨_, rfl⟩
          rw [← eH8]
          have off8 : ∀ b o, ¬ (H b ≠ none ∨ b = pl) → H7 b = some o → H8 b = some o := fun b o z e => by rw [eH8, upd_ne (fun w => z (.inr w))]; exact e
          have tk8 : TupK H7 H8 := by rw [eH8]; exact tupK_upd e7
          have e8 : H8 pl = some (.lst (.ref p7 :: ux)) := by rw [eH8, upd_same]; rfl
          have n8 : NumsAt H8 a := by
            obtain ⟨l, e2, hl⟩ := n7
            exact ⟨l, by rw [eH8, upd_ne pla.symm]; exact e2, hl⟩
          have hp8 := (hp6.keep (s7.offz za) (s7.tups n6)).keep off8 tk8
          obtain ⟨x8, f8, ex8, hp08, cf8⟩ : ∃ (x8 : Addr) (f8 : Fm), x8 = p7 ∧ (∃ lo, PartX H8 (fun b => H b ≠ none ∨ b = pl) x8 f8 lo) ∧ f8.cnt ≤ 2 := ⟨p7, _, rfl, ⟨lo7, hp7.keep off8 tk8⟩, by simp only [Fm.cnt]; omega⟩
          have hfr8 := (hfr6.keep (s7.offz za) (s7.tups n6)).keep off8 tk8
          have s8 : SameB a H H8 := fun b o n e => by
            rw [eH8, upd_ne (fun z => by subst z; rw [ss _ _ n e] at npl; cases npl)]
            exact s7 _ _ n (s6 _ _ n (s5 b o n e))
          rw [← ex8] at e8
        case' neg =>
          rw [decide_eq_false (fun e => e2 (by have := V.int.inj e; omega))]
          refine iteF ?_
          obtain ⟨H8, eH8⟩ : ∃ H8, H8 = H6 := ⟨_, rfl⟩
          rw [← eH8]
          have e8 : H8 pl = some (.lst (.ref p0 :: ux)) := by rw [eH8]; exact e6
          have n8 : NumsAt H8 a := by rw [eH8]; exact n6
          have hp8 := hp6
          rw [← eH8] at hp8
          obtain ⟨x8, f8, ex8, hp08, cf8⟩ : ∃ (x8 : Addr) (f8 : Fm), x8 = p0 ∧ (∃ lo, PartX H8 (fun b => H b ≠ none ∨ b = pl) x8 f8 lo) ∧ f8.cnt ≤ 2 := ⟨p0, _, rfl, ⟨lo0, by rw [eH8]; exact hp06⟩, by omega⟩
          have hfr8 := hfr6
          rw [← eH8] at hfr8
          have s8 : SameB a H H8 := by rw [eH8]; exact s5.trans s6
          rw [← ex8] at e8
        all_goals
          obtain ⟨lo8, hp08⟩ := hp08
          have hL : PartL H8 (fun b => H b ≠ none ∨ b = pl) (.ref x8 :: ux) (f8 :: fr) := .cons ⟨x8, lo8, rfl, hp08⟩ hfr8
          refine ⟨.ref pl, rfl, .inl ⟨rfl, _, sqL e8⟩, .ref a, rfl, .ref pl, rfl, .ref pl, _, rfl, .inl ⟨_, sqL e8, rfl⟩, _, 1, rfl, rfl, a, _, rfl, by omega, n8, fun H9 r9 hr9 s9 n9 => ?_⟩
          have e9 := s9 _ _ pla e8
          have lux : (V.ref x8 :: ux).length ≤ 4 := by simp only [List.length_cons] at l5 ⊢; omega
          refine ⟨_, rfl, pl, _, r9, .ref p, rfl, rfl, e9, by rw [sizeLine_eq]; omega, by omega, by omega, ?_⟩
          have hL9 := hL.keep (s9.offz za) (s9.tups n8)
          have hp9 := hp8.keep (s9.offz za) (s9.tups n8)
          obtain ⟨H10, eH10⟩ : ∃ H10, H10 = upd H9 pl (.lst (List.take ((r9 : Nat) : Int).toNat (V.ref x8 :: ux) ++ [.ref p] ++ List.drop ((r9 : Nat) : Int).toNat (V.ref x8 :: ux))) := ⟨_, rfl⟩
          rw [← eH10]
          rw [Int.toNat_natCast] at eH10
          have off10 : ∀ b o, ¬ (H b ≠ none ∨ b = pl) → H9 b = some o → H10 b = some o := fun b o z e => by rw [eH10, upd_ne (fun w => z (.inr w))]; exact e
          have tk10 : TupK H9 H10 := by rw [eH10]; exact tupK_upd e9
          have hL10 := hL9.keep off10 tk10
          have hp10 := hp9.keep off10 tk10
          have n10 : NumsAt H10 a := by
            obtain ⟨l, e2, hl⟩ := n9
            exact ⟨l, by rw [eH10, upd_ne pla.symm]; exact e2, hl⟩
          have hL11 : PartL H10 (fun b => H b ≠ none ∨ b = pl) (List.take r9 (V.ref x8 :: ux) ++ [.ref p] ++ List.drop r9 (V.ref x8 :: ux)) (List.take r9 (f8 :: fr) ++ [f] ++ List.drop r9 (f8 :: fr)) := by
            obtain ⟨q1, q2⟩ := paired_take hL10 r9
            exact paired_app (paired_snoc q1 ⟨p, lo, rfl, hp10⟩) q2
          have cc : cntL (List.take r9 (f8 :: fr) ++ [f] ++ List.drop r9 (f8 :: fr)) = f8.cnt + cntL fr + f.cnt := by
            have := cntL_app (List.take r9 (f8 :: fr)) (List.drop r9 (f8 :: fr))
            rw [List.take_append_drop] at this
            simp only [cntL] at this
            rw [cntL_app, cntL_app]
            simp only [cntL]; omega
          have ll : 2 ≤ (List.take r9 (f8 :: fr) ++ [f] ++ List.drop r9 (f8 :: fr)).length := by
            simp only [List.length_append, List.length_take, List.length_drop, List.length_cons, List.length_nil]; omega
          have s10 : SameB a H H10 := fun b o n e => by
            rw [eH10, upd_ne (fun z => by subst z; rw [ss _ _ n e] at npl; cases npl)]
            exact s9 _ _ n (s8 b o n e)
          refine ⟨.ref a, rfl, .ref pl, rfl, a, pl, _, _, (fun b => H b ≠ none ∨ b = pl), rfl, n10, za, pla, by rw [eH10, upd_same], hL11, ll, by omega, fun p12 H12 w12 lo12 s12 n12 hp12 => ?_⟩
          exact ⟨p12, _, _, _, _, lo12, rfl, s10.trans s12, n12, hp12.mono (s10.dom n10), by simp only [Fm.cnt]; omega⟩
    · rintro σ H2 ⟨p, c3, c4, c5, f, lo, rfl, s2, n2, hp, hc⟩
      exact ⟨_, rfl, q p H2 f lo s2 n2 hp (by omega)⟩
end
end K7

set_option Elab.async false
set_option linter.all false
set_option maxRecDepth 100000
set_option maxHeartbeats 4000000
namespace K7
open PySem PySem.Spec PyProof.Rows L2 GX NdefX
/-! ### sorted lists with the same members -/
theorem str_anti {x y : Str} (h1 : ¬ y.cps.toList < x.cps.toList) (h2 : ¬ x.cps.toList < y.cps.toList) : x = y := by
  have e : x.cps.toList = y.cps.toList := List.le_antisymm (List.not_lt.mp h1) (List.not_lt.mp h2)
  rw [T_eq e, T_of]
theorem up_unique : ∀ (ys zs : List Str), SX.Up ys → ys.Nodup → SX.Up zs → zs.Nodup → (∀ z, z ∈ ys ↔ z ∈ zs) → ys = zs
  | [], [], _, _, _, _, _ => rfl
  | [], b :: r, _, _, _, _, h => by simpa using (h b).mpr List.mem_cons_self
  | a :: r, [], _, _, _, _, h => by simpa using (h a).mp List.mem_cons_self
  | a :: r, b :: s, u1, n1, u2, n2, h => by
    have u1' := List.pairwise_cons.mp u1
    have u2' := List.pairwise_cons.mp u2
    have n1' := List.nodup_cons.mp n1
    have n2' := List.nodup_cons.mp n2
    have e : a = b := by
      rcases List.mem_cons.mp ((h a).mp List.mem_cons_self) with q | q
      · exact q
      · rcases List.mem_cons.mp ((h b).mpr List.mem_cons_self) with q2 | q2
        · exact q2.symm
        · exact str_anti (u1'.1 b q2) (u2'.1 a q)
    subst e
    rw [up_unique r s u1'.2 n1'.2 u2'.2 n2'.2 fun z => by
      constructor
      · intro m
        rcases List.mem_cons.mp ((h z).mp (List.mem_cons_of_mem _ m)) with q | q
        · subst q; exact absurd m n1'.1
        · exact q
      · intro m
        rcases List.mem_cons.mp ((h z).mpr (List.mem_cons_of_mem _ m)) with q | q
        · subst q; exact absurd m n2'.1
        · exact q]
theorem Told.unique {ys zs l : List Str} (h : Told ys l) (k : Told zs l) : ys = zs := up_unique _ _ h.1 h.2.1 k.1 k.2.1 fun z => (h.2.2 z).trans (k.2.2 z).symm
def spOnce : Sp := fun vs H Q _ => ∃ (na : Addr) (zs : List Str), vs = [.ref na] ∧ H na = some (.lst (txs zs)) ∧ zs.length ≤ 4000 ∧ ∀ ys p H', Told ys zs → Same H H' → H' p = some (.tup (txs ys)) → Q (.ref p) H'
section
variable {P : Program} {w : World} {K : PySem.W.Frag} {mg : Str → Option Value} {base : Heap}
theorem ok_once {k : Nat} (D : Pr P K mg) : FnOk P w K mg base CX0 (k + 1) D._law_each_once.f D._law_each_once.fd ["names"] spOnce := by
  refine D._law_each_once.F.ok sc__law_each_once (fun vs H Q E h => ?_) (fun cdv A outer s H vs Q E hr h => ?_)
  · obtain ⟨na, zs, rfl, _⟩ := h
    rfl
  · obtain ⟨na, zs, rfl, hna, hl, q⟩ := h
    refine ⟨_, (pss_cons (ps_set (i := 1) sc__law_each_once.nd rfl (.inl rfl) (pe_lst pa_nil))
      (pss_cons (ps_for PassesOwn.never rfl (pi_list (pe_callB (r := SX.rSortT K) SX.cr_sortT (by rfl) D.B.sorted (by decide +kernel) (pa_cons (pv 0) pa_nil))) (pg_name (i := 2) sc__law_each_once.nd rfl (.inl rfl)) (pss_one (ps_if (pt_cmpR op_notIn_seq (pv 2) (pv 1) (by rfl)) (pss_one (ps_expr (pe_bm PySem.F.plainAttrs_list PySem.F.slot_list_append PySem.F.type_list_append mt_append (pv 1) (pa_cons (pv 2) pa_nil)))) pss_nil)))
      (pss_one (ps_ret (pe_callTy call_tuple_of (by rfl) D.B.tuple (by decide +kernel) (pa_cons (pv 1) pa_nil)))))), ?_⟩
    refine ⟨by show 0 ≤ sizeLine; omega, fun F nF => ?_⟩
    refine ⟨.ref na, rfl, na, zs, rfl, sqL (same_upd nF _ _ hna), fun l S pm up nS => ⟨S, rfl, ⟨_, sqL upd_same⟩, ?_⟩⟩
    have qs : S ≠ F := fun e => by subst e; rw [upd_same] at nS; cases nS
    have nS0 := nS
    rw [upd_ne qs] at nS0
    refine forLs (fun i σ H2 => ∃ c2 fs, σ = [some (.ref na), some (.ref F), c2] ∧ (∀ b o, b ≠ F → upd (upd H F (.lst [])) S (.lst (l.map V.str)) b = some o → H2 b = some o) ∧ H2 F = some (.lst (txs fs)) ∧ List.Sublist fs (l.take i) ∧ fs.Nodup ∧ ∀ z, z ∈ fs ↔ z ∈ l.take i) upd_same ⟨_, [], rfl, fun b o _ e => e, by rw [upd_ne qs.symm, upd_same]; rfl, by simp, List.nodup_nil, by simp⟩ ?_ ?_ ?_
    · rintro i σ H2 ⟨c2, fs, rfl, k2, _⟩
      exact k2 _ _ qs upd_same
    · rintro i x σ H2 hx ⟨c2, fs, rfl, k2, e2, sb, nd, mem⟩
      rw [List.getElem?_map] at hx
      obtain ⟨z, hz, rfl⟩ := Option.map_eq_some_iff.mp hx
      have hi : i < l.length := (List.getElem?_eq_some_iff.mp hz).1
      have hll : l.length ≤ 4000 := by rw [pm.length_eq]; exact hl
      have hfl : fs.length ≤ 4000 := by
        have h1 := sb.length_le
        have h2 := List.length_take_le i l
        omega
      refine ⟨.str z, rfl, .ref F, rfl, F, _, rfl, .inl (sqL e2), rfl, by unfold txs; rw [List.all_map]; exact List.all_eq_true.mpr fun _ _ => rfl, _, rfl, ?_⟩
      show if (if true = true then !inV (.str z) (fs.map V.str) else _) = true then _ else _
      rw [if_pos rfl, inStr]
      by_cases hm : z ∈ fs
      · refine iteFq (by simp only [Bool.not_eq_false', List.any_eq_true]; exact ⟨z, hm, decide_eq_true rfl⟩) ⟨_, fs, rfl, k2, e2, ?_, nd, fun y => ?_⟩
        · rw [take_snoc hz]; exact sb.trans (List.sublist_append_left _ _)
        · rw [take_snoc hz, List.mem_append, List.mem_singleton, mem y]
          exact ⟨.inl, fun q => q.elim id fun e => by subst e; exact (mem y).mp hm⟩
      · refine iteTq (by simp only [Bool.not_eq_true', List.any_eq_false]; exact fun y my e => hm (by have := of_decide_eq_true e; subst this; exact my)) ⟨.ref F, rfl, .inl ⟨rfl, _, sqL e2⟩, .str z, rfl, F, _, _, rfl, rfl, e2, by unfold txs; rw [List.length_map, sizeLine_eq]; omega, _, fs ++ [z], rfl, fun b o n e => by rw [upd_ne n]; exact k2 b o n e, by rw [upd_same]; unfold txs; rw [List.map_append]; rfl, ?_, ?_, fun y => ?_⟩
        · rw [take_snoc hz]; exact sb.append (List.Sublist.refl _)
        · rw [List.nodup_append]
          exact ⟨nd, by simp, fun a ha b hb => by rw [List.mem_singleton] at hb; subst hb; rintro rfl; exact hm ha⟩
        · rw [take_snoc hz, List.mem_append, List.mem_append, mem y]
    · rintro σ H2 ⟨c2, fs, rfl, k2, e2, sb, nd, mem⟩
      rw [List.length_map, List.take_length] at sb mem
      have sm : Same H H2 := fun b o e => k2 b o (ne_of_none e nF) (by rw [upd_ne (ne_of_none e nS0), upd_ne (ne_of_none e nF)]; exact e)
      refine ⟨.ref F, rfl, F, _, rfl, .inl ⟨sqL e2, fun p np => q fs p _ ⟨List.Pairwise.sublist sb up, nd, fun z => (mem z).trans pm.mem_iff⟩ (sm.trans (same_upd np)) upd_same⟩⟩
end
end K7

set_option Elab.async false
set_option linter.all false
set_option maxRecDepth 100000
set_option maxHeartbeats 4000000
namespace K7
open PySem PySem.Spec PyProof.Rows L2 GX NdefX
/-! ### isinstance of the caught error, whose class is told in the reading -/
def rIsX (K : PySem.W.Frag) (a : Addr) (cls : Value) (d : Option Addr) : List V → Hp → VK → Prop := fun xs H Q => ∃ D, cls = .ref D ∧ d = none ∧ ExcC K D ∧ rIsE K D a xs H Q
theorem call_isX {X : Cx} {a : Addr} {cls : Value} {d : Option Addr} {oe : Obj} {pn : List (Addr × Obj)} (hz : Zc cls d oe) (hv : ∃ vs, oe.data = .fields vs) : CallR (X.suite a ((a, oe) :: pn)) (.builtin "isinstance") (rIsX X.K a cls d) := by
  intro pins s σ H xs us Q I r h
  obtain ⟨D, rfl, rfl, hc, h⟩ := h
  exact call_isE hc hz hv pins s σ H xs us Q I r h
theorem exm_kit {K : PySem.W.Frag} {A B : Value} {b : Bool} (h : PySem.W.exmOne K A B = some b) : PySem.W.kitCls K A B = some b := by
  unfold PySem.W.exmOne at h
  split at h
  · exact h
  · cases h
theorem kit_no {K : PySem.W.Frag} {A B : Addr} (h1 : PySem.W.exmOne K (.ref A) (.ref A) = some true) (h2 : PySem.W.exmOne K (.ref A) (.ref B) = some false) : PySem.W.kitOne K (.ref A) (.ref B) = some false := by
  unfold PySem.W.kitOne
  split
  · rename_i e
    have e : (Value.ref A) = .ref B := eq_of_beq e
    rw [← e, h1] at h2; cases h2
  · exact exm_kit h2
theorem kit_yes {K : PySem.W.Frag} {A B : Addr} (h2 : PySem.W.exmOne K (.ref A) (.ref B) = some true) : PySem.W.kitOne K (.ref A) (.ref B) = some true := by
  unfold PySem.W.kitOne
  split
  · rfl
  · exact exm_kit h2
/-- the line that the law is told -/
def lineOf : PyData → Int
  | .str x => match parse (wd [] x.cps.toList) with
    | none => 1
    | some (_, n) => if n ≤ 40 then -1 else 1
  | _ => 0
def spLawLine : Sp := fun vs H Q _ => ∃ (v : V) (d : PyData), vs = [v] ∧ Dh H v d ∧ (∀ x, d = .str x → x.length ≤ 100000) ∧ ∀ H1, Same H H1 → Q (.int (lineOf d)) H1
def spRefuse : Sp := fun vs H Q _ => ∃ (v : V) (d : PyData), vs = [v] ∧ Arg H v d ∧ formL 40 [d] = false ∧ ∀ H1, Same H H1 → Q (.bl true) H1
section
variable {P : Program} {w : World} {K : PySem.W.Frag} {mg : Str → Option Value} {base : Heap}
theorem ok_line {k : Nat} (D : Pr P K mg) : FnOk P w K mg base (CX P w) (k + 7) D._law_line.f D._law_line.fd ["text"] spLawLine := by
  have G_formula_from : FnOk P w K mg base (CX P w) (k + 6) D.formula_from.f D.formula_from.fd ["text"] (spFrom D.BadText.C) := ok_from D
  refine D._law_line.F.okX sc__law_line (fun vs H Q E h => ?_) (fun cdv A outer s H vs Q E hr h => ?_)
  · obtain ⟨v, d, rfl, _⟩ := h
    rfl
  · obtain ⟨v, d, rfl, hd, hx, q⟩ := h
    refine ⟨_, (pss_cons (ps_set (i := 1) sc__law_line.nd rfl (.inl rfl) (pe_un un_neg pe_int))
      (pss_cons (ps_try_manyA rfl rfl sc__law_line.nd takes0 (fun W pn xe tk _ => (pss_one (ps_expr (pe_callS G_formula_from (hr.mono (by omega)) (by rfl) D.formula_from.g D.formula_from.F.kp D.formula_from.b (fun σ => passAt tk σ) (pa_cons (pv 0) pa_nil)))))
        (HdsA.named (i := 2) (c := .ref D.BadText.C) ⟨by rfl, by decide, .inl D.BadText.g⟩ rfl rfl (fun a oe cls d pn hz hv => (pss_one (ps_set (i := 1) sc__law_line.nd rfl (.inl rfl) (pe_xf D.BadText.X (D.BadText.nf _ (by simp)) hz hv (pv 2)))))
        (HdsA.plain (c := .ref D.a_RungsError.C) ⟨by rfl, by decide, .inl D.a_RungsError.g⟩ (fun a oe cls d pn hz hv => (pss_one (ps_set (i := 1) sc__law_line.nd rfl (.inl rfl) (pe_un un_neg pe_int))))
        HdsA.nil)))
      (pss_one (ps_ret (pv 1))))), ?_⟩
    refine ⟨1, rfl, v, rfl, v, d, rfl, hd, ?_, ?_⟩
    · intro e dd H' s' ed
      have el : lineOf d = 0 := by cases d <;> first | rfl | cases e
      rw [el] at q
      exact ⟨true, D.x_BadText_BadText, fun _ a na => ⟨.ref a, rfl, rfl, rfl, dd, _, .int 0, rfl, ed, rfl, .int 0, rfl, q H' s'⟩, fun z => Bool.noConfusion z⟩
    · rintro x rfl
      have raise : lineOf (.str x) = 1 → ∀ H', Same H H' → Q (.int 1) H' := fun el H' s' => by
        rw [el] at q
        exact q H' s'
      refine ⟨hx x rfl, fun en dd H' s' ed => ⟨true, D.x_BadText_BadText, fun _ a na => ⟨.ref a, rfl, rfl, rfl, dd, _, .int 1, rfl, ed, rfl, .int 1, rfl, raise (by simp only [lineOf]; rw [en]) H' s'⟩, fun z => Bool.noConfusion z⟩, fun f n ep => ⟨fun hn dd H' s' ed => ⟨true, D.x_BadText_BadText, fun _ a na => ⟨.ref a, rfl, rfl, rfl, dd, _, .int 1, rfl, ed, rfl, .int 1, rfl, raise (by simp only [lineOf]; rw [ep]; simp only; rw [if_neg (by omega)]) H' s'⟩, fun z => Bool.noConfusion z⟩, fun hn u H1 s1 hu => ?_⟩⟩
      have el : lineOf (.str x) = -1 := by simp only [lineOf]; rw [ep]; simp only; rw [if_pos hn]
      rw [el] at q
      exact ⟨_, rfl, q H1 s1⟩
theorem ok_refuse {k : Nat} (D : Pr P K mg) : FnOk P w K mg base (CX P w) (k + 47) D._law_refused.f D._law_refused.fd ["formula"] spRefuse := by
  have G_check_formula : FnOk P w K mg base (CX P w) (k + 5) D.check_formula.f D.check_formula.fd ["formula"] (spCheck D.BadFormula.C) := ok_check D
  have G_formula_text : FnOk P w K mg base (CX P w) (k + 46) D.formula_text.f D.formula_text.fd ["formula"] (spTextC D.BadFormula.C) := ok_text D
  have G_is_plain : FnOk P w K mg base (CX P w) (k + 6) D.is_plain.f D.is_plain.fd ["formula"] (spPlain D.BadFormula.C) := ok_plain D
  have G_names_of : FnOk P w K mg base (CX P w) (k + 6) D.names_of.f D.names_of.fd ["formula"] (spToldC D.BadFormula.C Fm.nms) := ok_names D
  have G_edges_of : FnOk P w K mg base (CX P w) (k + 6) D.edges_of.f D.edges_of.fd ["formula"] (spToldC D.BadFormula.C Fm.eds) := ok_edges D
  refine D._law_refused.F.okX sc__law_refused (fun vs H Q E h => ?_) (fun cdv A outer s H vs Q E hr h => ?_)
  · obtain ⟨v, d, rfl, _⟩ := h
    rfl
  · obtain ⟨v, d, rfl, hd, hf, q⟩ := h
    refine ⟨_, (pss_cons (ps_for (by passes_own) rfl (pi_range1 (by rfl) D.B.range (pa_cons pe_int pa_nil)) (pg_name (i := 1) sc__law_refused.nd rfl (.inl rfl)) (pss_cons (ps_set (i := 2) sc__law_refused.nd rfl (.inl rfl) pe_str) (pss_cons (ps_try_manyA rfl rfl sc__law_refused.nd takes0 (fun W pn xe tk _ => (pss_one (ps_if (pt_cmpR op_eq (pv 1) pe_int (nomark _)) (pss_one (ps_expr (pe_callS G_check_formula (hr.mono (by omega)) (by rfl) D.check_formula.g D.check_formula.F.kp D.check_formula.b (fun σ => passAt tk σ) (pa_cons (pv 0) pa_nil)))) (pss_one (ps_if (pt_cmpR op_eq (pv 1) pe_int (nomark _)) (pss_one (ps_expr (pe_callS G_formula_text (hr.mono (by omega)) (by rfl) D.formula_text.g D.formula_text.F.kp D.formula_text.b (fun σ => passAt tk σ) (pa_cons (pv 0) pa_nil)))) (pss_one (ps_if (pt_cmpR op_eq (pv 1) pe_int (nomark _)) (pss_one (ps_expr (pe_callS G_is_plain (hr.mono (by omega)) (by rfl) D.is_plain.g D.is_plain.F.kp D.is_plain.b (fun σ => passAt tk σ) (pa_cons (pv 0) pa_nil)))) (pss_one (ps_if (pt_cmpR op_eq (pv 1) pe_int (nomark _)) (pss_one (ps_expr (pe_callS G_names_of (hr.mono (by omega)) (by rfl) D.names_of.g D.names_of.F.kp D.names_of.b (fun σ => passAt tk σ) (pa_cons (pv 0) pa_nil)))) (pss_one (ps_expr (pe_callS G_edges_of (hr.mono (by omega)) (by rfl) D.edges_of.g D.edges_of.F.kp D.edges_of.b (fun σ => passAt tk σ) (pa_cons (pv 0) pa_nil)))))))))))))
        (HdsA.named (i := 3) (c := .ref D.BadFormula.C) ⟨by rfl, by decide, .inl D.BadFormula.g⟩ rfl rfl (fun a oe cls d pn hz hv => (pss_cons (ps_set (i := 2) sc__law_refused.nd rfl (.inl rfl) pe_str) (pss_one (ps_if (PW.pt (pw_or (pt_val (pe_callB (r := rIsX K a cls d) (call_isX hz hv) (by rfl) D.B.isinstance (by decide +kernel) (pa_cons (pv 3) (pa_cons (pe_glob (v := .ref D.BadText.C) (u := .ref D.BadText.C) (by rfl) D.BadText.g rfl) pa_nil)))) (pw_or1 (pt_not (pt_val (pe_callB (r := rIsX K a cls d) (call_isX hz hv) (by rfl) D.B.isinstance (by decide +kernel) (pa_cons (pv 3) (pa_cons (pe_glob (v := .ref D.a_RungsError.C) (u := .ref D.a_RungsError.C) (by rfl) D.a_RungsError.g rfl) pa_nil)))))))) (pss_one (ps_set (i := 2) sc__law_refused.nd rfl (.inl rfl) pe_str)) pss_nil))))
        (HdsA.plain (c := .ref D.a_RungsError.C) ⟨by rfl, by decide, .inl D.a_RungsError.g⟩ (fun a oe cls d pn hz hv => (pss_one (ps_set (i := 2) sc__law_refused.nd rfl (.inl rfl) pe_str)))
        HdsA.nil))) (pss_one (ps_if (pt_cmpR op_ne (pv 2) pe_str (nomark _)) (pss_one (ps_ret pe_bl)) pss_nil)))))
      (pss_one (ps_ret pe_bl))), ?_⟩
    refine ⟨5, rfl, by decide, by decide, ?_⟩
    refine forRg (n := 5) (fun i σ H2 => (∃ c1 c2 c3, σ = [some v, c1, c2, c3]) ∧ Same H H2) ⟨⟨_, _, _, rfl⟩, Same.refl _⟩ ?_ ?_
    · rintro i σ H2 hi ⟨⟨c1, c2, c3, rfl⟩, s2⟩
      have hd2 := hd.same s2
      have ok : ∀ {Q2 : Prop}, formL 40 [d] = true → Q2 := fun e => by rw [hf] at e; cases e
      refine ⟨_, rfl, rfl, _, rfl, ?_⟩
      have no : ∀ {m n : Nat} {Q2 : Prop}, m ≠ n → V.int (m : Nat) = V.int (n : Nat) → Q2 := fun h e => absurd (by have := V.int.inj e; omega) h
      obtain rfl | rfl | rfl | rfl | rfl : i = 0 ∨ i = 1 ∨ i = 2 ∨ i = 3 ∨ i = 4 := by omega
      · refine iteTq (decide_eq_true rfl) ⟨v, rfl, v, d, rfl, hd2, fun e => ok e, fun _ H' s' => ⟨true, D.x_BadFormula_BadFormula, fun _ a na => ?_, fun z => Bool.noConfusion z⟩⟩
        refine ⟨.ref a, rfl, D.BadFormula.C, rfl, rfl, D.e_BadFormula, .ref D.BadText.C, .ref D.BadText.C, false, rfl, fun u e => e, kit_no D.x_BadFormula_BadFormula D.x_BadFormula_BadText, false, rfl, iteF ?_⟩
        refine ⟨.ref a, rfl, D.BadFormula.C, rfl, rfl, D.e_BadFormula, .ref D.a_RungsError.C, .ref D.a_RungsError.C, true, rfl, fun u e => e, kit_yes D.x_BadFormula_RungsError, true, rfl, iteF ?_⟩
        refine ⟨_, rfl, rfl, _, rfl, iteFq (by rw [decide_eq_true rfl]; rfl) ⟨⟨_, _, _, rfl⟩, s2.trans s'⟩⟩
      · refine iteFq (decide_eq_false (no (n := 0) (by decide))) ⟨_, rfl, rfl, _, rfl, iteTq (decide_eq_true rfl) ⟨v, rfl, v, d, rfl, hd2, fun _ H' s' => ⟨true, D.x_BadFormula_BadFormula, fun _ a na => ?_, fun z => Bool.noConfusion z⟩, fun e => ok e⟩⟩
        refine ⟨.ref a, rfl, D.BadFormula.C, rfl, rfl, D.e_BadFormula, .ref D.BadText.C, .ref D.BadText.C, false, rfl, fun u e => e, kit_no D.x_BadFormula_BadFormula D.x_BadFormula_BadText, false, rfl, iteF ?_⟩
        refine ⟨.ref a, rfl, D.BadFormula.C, rfl, rfl, D.e_BadFormula, .ref D.a_RungsError.C, .ref D.a_RungsError.C, true, rfl, fun u e => e, kit_yes D.x_BadFormula_RungsError, true, rfl, iteF ?_⟩
        refine ⟨_, rfl, rfl, _, rfl, iteFq (by rw [decide_eq_true rfl]; rfl) ⟨⟨_, _, _, rfl⟩, s2.trans s'⟩⟩
      · refine iteFq (decide_eq_false (no (n := 0) (by decide))) ⟨_, rfl, rfl, _, rfl, iteFq (decide_eq_false (no (n := 1) (by decide))) ⟨_, rfl, rfl, _, rfl, iteTq (decide_eq_true rfl) ⟨v, rfl, v, d, rfl, hd2, fun _ H' s' => ⟨true, D.x_BadFormula_BadFormula, fun _ a na => ?_, fun z => Bool.noConfusion z⟩, fun e => ok e⟩⟩⟩
        refine ⟨.ref a, rfl, D.BadFormula.C, rfl, rfl, D.e_BadFormula, .ref D.BadText.C, .ref D.BadText.C, false, rfl, fun u e => e, kit_no D.x_BadFormula_BadFormula D.x_BadFormula_BadText, false, rfl, iteF ?_⟩
        refine ⟨.ref a, rfl, D.BadFormula.C, rfl, rfl, D.e_BadFormula, .ref D.a_RungsError.C, .ref D.a_RungsError.C, true, rfl, fun u e => e, kit_yes D.x_BadFormula_RungsError, true, rfl, iteF ?_⟩
        refine ⟨_, rfl, rfl, _, rfl, iteFq (by rw [decide_eq_true rfl]; rfl) ⟨⟨_, _, _, rfl⟩, s2.trans s'⟩⟩
      · refine iteFq (decide_eq_false (no (n := 0) (by decide))) ⟨_, rfl, rfl, _, rfl, iteFq (decide_eq_false (no (n := 1) (by decide))) ⟨_, rfl, rfl, _, rfl, iteFq (decide_eq_false (no (n := 2) (by decide))) ⟨_, rfl, rfl, _, rfl, iteTq (decide_eq_true rfl) ⟨v, rfl, v, d, rfl, hd2, fun _ H' s' => ⟨true, D.x_BadFormula_BadFormula, fun _ a na => ?_, fun z => Bool.noConfusion z⟩, fun e => ok e⟩⟩⟩⟩
        refine ⟨.ref a, rfl, D.BadFormula.C, rfl, rfl, D.e_BadFormula, .ref D.BadText.C, .ref D.BadText.C, false, rfl, fun u e => e, kit_no D.x_BadFormula_BadFormula D.x_BadFormula_BadText, false, rfl, iteF ?_⟩
        refine ⟨.ref a, rfl, D.BadFormula.C, rfl, rfl, D.e_BadFormula, .ref D.a_RungsError.C, .ref D.a_RungsError.C, true, rfl, fun u e => e, kit_yes D.x_BadFormula_RungsError, true, rfl, iteF ?_⟩
        refine ⟨_, rfl, rfl, _, rfl, iteFq (by rw [decide_eq_true rfl]; rfl) ⟨⟨_, _, _, rfl⟩, s2.trans s'⟩⟩
      · refine iteFq (decide_eq_false (no (n := 0) (by decide))) ⟨_, rfl, rfl, _, rfl, iteFq (decide_eq_false (no (n := 1) (by decide))) ⟨_, rfl, rfl, _, rfl, iteFq (decide_eq_false (no (n := 2) (by decide))) ⟨_, rfl, rfl, _, rfl, iteFq (decide_eq_false (no (n := 3) (by decide))) ⟨v, rfl, v, d, rfl, hd2, fun _ H' s' => ⟨true, D.x_BadFormula_BadFormula, fun _ a na => ?_, fun z => Bool.noConfusion z⟩, fun e => ok e⟩⟩⟩⟩
        refine ⟨.ref a, rfl, D.BadFormula.C, rfl, rfl, D.e_BadFormula, .ref D.BadText.C, .ref D.BadText.C, false, rfl, fun u e => e, kit_no D.x_BadFormula_BadFormula D.x_BadFormula_BadText, false, rfl, iteF ?_⟩
        refine ⟨.ref a, rfl, D.BadFormula.C, rfl, rfl, D.e_BadFormula, .ref D.a_RungsError.C, .ref D.a_RungsError.C, true, rfl, fun u e => e, kit_yes D.x_BadFormula_RungsError, true, rfl, iteF ?_⟩
        refine ⟨_, rfl, rfl, _, rfl, iteFq (by rw [decide_eq_true rfl]; rfl) ⟨⟨_, _, _, rfl⟩, s2.trans s'⟩⟩
    · rintro σ H2 ⟨⟨c1, c2, c3, rfl⟩, s2⟩
      exact q H2 s2
end
end K7

set_option Elab.async false
set_option linter.all false
set_option maxRecDepth 100000
set_option maxHeartbeats 4000000
namespace K7
open PySem PySem.Spec PyProof.Rows L2 GX NdefX
/-! ### _law_names_right -/
theorem name_dot {l : List Nat} : nameB (T (l ++ [46])) = false := by
  unfold nameB
  have : (T (l ++ [46])).cps.toList.getLast?.all (fun c => decide (c ≠ 46)) = false := by
    rw [T_list, List.getLast?_append]; rfl
  rw [this]; simp
theorem dot_name {l : List Nat} : nameB (T (46 :: l)) = false := by
  unfold nameB
  have : (T (46 :: l)).cps.toList.head?.any (fun c => decide (c ∈ letters.cps.toList)) = false := by
    rw [T_list]
    show decide ((46 : Nat) ∈ letters.cps.toList) = false
    decide +kernel
  rw [this]; simp
def NoName (H : Hp) (x : V) : Prop := ∃ d, Dh H x d ∧ nameD d = false ∧ ∀ z, d = .str z → z.cps.size ≤ 1000000
theorem NoName.same {H H1 : Hp} {x : V} (h : NoName H x) (s : Same H H1) : NoName H1 x := by
  obtain ⟨d, hd, e, k⟩ := h
  exact ⟨d, hd.same s, e, k⟩
theorem noName_str {H : Hp} {z : Str} (h : nameB z = false) (k : z.cps.size ≤ 1000000) : NoName H (.str z) := ⟨.str z, .str z, h, fun y e => by cases e; exact k⟩
def spNamesR : Sp := fun vs H Q _ => ∃ (na : Addr) (p : List Str) (z : Str), vs = [.ref na, .str z] ∧ H na = some (.lst (txs p)) ∧ p.length ≤ 1000 ∧ (∀ y ∈ p, nameB y = true) ∧ z.cps.size ≤ 1000 ∧ ∀ H1, Same H H1 → Q (.bl true) H1
theorem good_names : ∀ y ∈ (["a", "z9", "a.b.c", "notx", "andor", "b..0"] : List Str), nameB y = true := by decide +kernel
theorem z_name : nameB (T (RG.repL (Str.ofString "z").cps.toList 40)) = true ∧ nameB (T (RG.repL (Str.ofString "z").cps.toList 41)) = false ∧ (RG.repL (Str.ofString "z").cps.toList 41).length = 41 ∧ (RG.repL (Str.ofString "z").cps.toList 40).length = 40 := by decide +kernel
theorem bad_names : ∀ y ∈ (["", "A", "1a", "not", "and", "or", "rise", "fall", "a b", "a_b", "a-b", " a", "a\n", "aB"] : List Str), nameB y = false ∧ y.cps.size ≤ 10 := by decide +kernel
section
variable {P : Program} {w : World} {K : PySem.W.Frag} {mg : Str → Option Value} {base : Heap}
theorem ok_namesr {k : Nat} (D : Pr P K mg) : FnOk P w K mg base CX0 (k + 2) D._law_names_right.f D._law_names_right.fd ["names", "name"] spNamesR := by
  have G_is_name : FnOk P w K mg base CX0 (k + 1) D.is_name.f D.is_name.fd ["value"] spName := ok_name D
  refine D._law_names_right.F.ok sc__law_names_right (fun vs H Q E h => ?_) (fun cdv A outer s H vs Q E hr h => ?_)
  · obtain ⟨na, p, z, rfl, _⟩ := h
    rfl
  · obtain ⟨na, p, z, rfl, hna, hpl, hp, hz, q⟩ := h
    refine ⟨_, (pss_cons (ps_for PassesOwn.never rfl (pi_list (pe_op op_cat (pv 0) (pe_lst (pa_cons pe_str (pa_cons pe_str (pa_cons pe_str (pa_cons pe_str (pa_cons pe_str (pa_cons pe_str (pa_cons (pe_op RG.op_repS pe_str pe_int) pa_nil)))))))))) (pg_name (i := 2) sc__law_names_right.nd rfl (.inl rfl)) (pss_one (ps_if (pt_cmpR op_isnot_bl (pe_call G_is_name (hr.mono (by omega)) (by rfl) D.is_name.g D.is_name.F.kp D.is_name.b .nil pass0 (pa_cons (pv 2) pa_nil)) pe_bl (nomark _)) (pss_one (ps_ret pe_bl)) pss_nil)))
      (pss_cons (ps_for PassesOwn.never rfl (pi_list (pe_lst (pa_cons pe_str (pa_cons pe_str (pa_cons pe_str (pa_cons (pe_op op_add_str (pv 1) pe_str) (pa_cons (pe_op op_add_str pe_str (pv 1)) (pa_cons (pe_op RG.op_repS pe_str pe_int) (pa_cons pe_str (pa_cons pe_str (pa_cons pe_str (pa_cons pe_str (pa_cons pe_str (pa_cons pe_str (pa_cons pe_str (pa_cons pe_str (pa_cons pe_str (pa_cons pe_str (pa_cons pe_str (pa_cons pe_non (pa_cons pe_int (pa_cons (pe_tup (pa_cons pe_str pa_nil)) (pa_cons (pe_lst (pa_cons pe_str pa_nil)) (pa_cons pe_bl pa_nil)))))))))))))))))))))))) (pg_name (i := 3) sc__law_names_right.nd rfl (.inl rfl)) (pss_one (ps_if (pt_cmpR op_isnot_bl (pe_call G_is_name (hr.mono (by omega)) (by rfl) D.is_name.g D.is_name.F.kp D.is_name.b .nil pass0 (pa_cons (pv 3) pa_nil)) pe_bl (nomark _)) (pss_one (ps_ret pe_bl)) pss_nil)))
      (pss_one (ps_ret pe_bl)))), ?_⟩
    refine ⟨.ref na, rfl, _, 40, rfl, rfl, by decide, by decide, fun b eb => ?_⟩
    obtain rfl := T_eq eb
    refine ⟨by show 7 ≤ sizeLine; rw [sizeLine_eq]; decide, fun A1 nA1 => ⟨na, A1, _, _, rfl, rfl, same_upd nA1 _ _ hna, upd_same, by unfold txs; rw [List.length_map, sizeLine_eq]; show p.length + 7 ≤ _; omega, fun A2 nA2 => ⟨A2, rfl, ⟨_, sqL upd_same⟩, ?_⟩⟩⟩
    refine forLs (fun i σ H2 => (∃ c2 c3, σ = [some (.ref na), some (.str z), c2, c3]) ∧ Same (upd (upd H A1 _) A2 _) H2) upd_same ⟨⟨_, _, rfl⟩, Same.refl _⟩ ?_ ?_ ?_
    · rintro i σ H2 ⟨_, s2⟩
      exact s2 _ _ upd_same
    · rintro i x σ H2 hx ⟨⟨c2, c3, rfl⟩, s2⟩
      obtain ⟨y, rfl, hy⟩ : ∃ y, x = .str y ∧ nameB y = true := by
        rcases List.mem_append.mp (List.mem_of_getElem? hx) with m | m
        · obtain ⟨y, my, rfl⟩ := List.mem_map.mp m
          exact ⟨y, rfl, hp y my⟩
        · simp only [List.mem_cons, List.not_mem_nil, or_false] at m
          rcases m with rfl | rfl | rfl | rfl | rfl | rfl | rfl
          · exact ⟨_, rfl, good_names _ (by simp)⟩
          · exact ⟨_, rfl, good_names _ (by simp)⟩
          · exact ⟨_, rfl, good_names _ (by simp)⟩
          · exact ⟨_, rfl, good_names _ (by simp)⟩
          · exact ⟨_, rfl, good_names _ (by simp)⟩
          · exact ⟨_, rfl, good_names _ (by simp)⟩
          · exact ⟨_, rfl, z_name.1⟩
      refine ⟨.str y, rfl, .str y, .str y, rfl, .str y, fun z e => by cases e; have := (nameS_of hy).2; omega, fun H3 s3 => ?_⟩
      exact ⟨_, _, rfl, rfl, _, rfl, iteFq (by show (!decide (nameB y = true)) = false; rw [hy]; rfl) ⟨⟨_, _, rfl⟩, s2.trans s3⟩⟩
    · rintro σ H2 ⟨⟨c2, c3, rfl⟩, s2⟩
      have qa : A2 ≠ A1 := fun e => by subst e; rw [upd_same] at nA2; cases nA2
      have nA3 := nA2
      rw [upd_ne qa] at nA3
      have s0 : Same H H2 := fun b o e => s2 b o (by rw [upd_ne (ne_of_none e nA3), upd_ne (ne_of_none e nA1)]; exact e)
      have ed : (Str.ofString "." : Str) = T [46] := by decide +kernel
      have zs := T_of z
      have lz : z.length = z.cps.size := rfl
      refine ⟨_, rfl, _, _, rfl, rfl, by rw [ed, T_len, lz, sizeLine_eq]; simp only [List.length_cons, List.length_nil]; omega, _, rfl, _, _, rfl, rfl, by rw [ed, T_len, lz, sizeLine_eq]; simp only [List.length_cons, List.length_nil]; omega, ?_⟩
      refine ⟨_, 41, rfl, rfl, by decide, by decide, fun b eb2 => ?_⟩
      obtain rfl := T_eq eb2
      refine ⟨by show 1 ≤ sizeLine; rw [sizeLine_eq]; decide, fun T1 nT1 => ⟨by show 1 ≤ sizeLine; rw [sizeLine_eq]; decide, fun L1 nL1 => ⟨by show 22 ≤ sizeLine; rw [sizeLine_eq]; decide, fun BL nBL => ⟨BL, rfl, ⟨_, sqL upd_same⟩, ?_⟩⟩⟩⟩
      have sT := same_upd (o := .tup [.str (Str.ofString "a")]) nT1
      have sL := same_upd (o := .lst [.str (Str.ofString "a")]) nL1
      refine forLs (fun i σ H3 => (∃ c2 c3, σ = [some (.ref na), some (.str z), c2, c3]) ∧ Same (upd (upd (upd H2 T1 _) L1 _) BL _) H3) upd_same ⟨⟨_, _, rfl⟩, Same.refl _⟩ ?_ ?_ ?_
      · rintro i σ H3 ⟨_, s3⟩
        exact s3 _ _ upd_same
      · rintro i x σ H3 hx ⟨⟨c2, c3, rfl⟩, s3⟩
        have sB := (same_upd nBL).trans s3
        obtain ⟨d, hd, nd, kd⟩ : NoName H3 x := by
          have m := List.mem_of_getElem? hx
          simp only [List.mem_cons, List.not_mem_nil, or_false] at m
          have bad : ∀ y ∈ (["", "A", "1a", "not", "and", "or", "rise", "fall", "a b", "a_b", "a-b", " a", "a\n", "aB"] : List Str), NoName H3 (.str y) := fun y my => noName_str (bad_names y my).1 (Nat.le_trans (bad_names y my).2 (by omega))
          rcases m with rfl | rfl | rfl | rfl | rfl | rfl | rfl | rfl | rfl | rfl | rfl | rfl | rfl | rfl | rfl | rfl | rfl | rfl | rfl | rfl | rfl | rfl
          · exact bad _ (by simp)
          · exact bad _ (by simp)
          · exact bad _ (by simp)
          · refine noName_str ?_ ?_
            · rw [← zs, ed, T_app]; exact name_dot
            · show (z ++ Str.ofString ".").length ≤ _
              rw [lenApp, ed, T_len, lz]; simp only [List.length_cons, List.length_nil]; omega
          · refine noName_str ?_ ?_
            · rw [← zs, ed, T_app]; exact dot_name
            · show (Str.ofString "." ++ z).length ≤ _
              rw [lenApp, ed, T_len, lz]; simp only [List.length_cons, List.length_nil]; omega
          · exact noName_str z_name.2.1 (by rw [T_size, z_name.2.2.1]; omega)
          · exact bad _ (by simp)
          · exact bad _ (by simp)
          · exact bad _ (by simp)
          · exact bad _ (by simp)
          · exact bad _ (by simp)
          · exact bad _ (by simp)
          · exact bad _ (by simp)
          · exact bad _ (by simp)
          · exact bad _ (by simp)
          · exact bad _ (by simp)
          · exact bad _ (by simp)
          · exact ⟨.none, .non, rfl, fun y e => by cases e⟩
          · exact ⟨.int 5, .int 5, rfl, fun y e => by cases e⟩
          · exact ⟨.tuple [.str "a"], .tup (sB _ _ (sL _ _ upd_same)) (.cons (.str _) .nil), rfl, fun y e => by cases e⟩
          · exact ⟨.list [.str "a"], .lst (sB _ _ upd_same) (.cons (.str _) .nil), rfl, fun y e => by cases e⟩
          · exact ⟨.bool true, .bl true, rfl, fun y e => by cases e⟩
        refine ⟨x, rfl, x, d, rfl, hd, kd, fun H4 s4 => ?_⟩
        rw [nd]
        exact ⟨_, _, rfl, rfl, _, rfl, iteFq rfl ⟨⟨_, _, rfl⟩, s3.trans s4⟩⟩
      · rintro σ H3 ⟨⟨c2, c3, rfl⟩, s3⟩
        exact q H3 (s0.trans (sT.trans (sL.trans ((same_upd nBL).trans s3))))
end
end K7

set_option Elab.async false
set_option linter.all false
set_option maxRecDepth 100000
set_option maxHeartbeats 4000000
namespace K7
open PySem PySem.Spec PyProof.Rows L2 GX NdefX
/-! ### texts that cannot be read -/
def NoRead (l : List Nat) : Prop := parse (wd [] l) = none
theorem ready0 : Ready {} := ⟨rfl, rfl⟩
theorem no_runs {ws : List (List Nat)} (h : runs ws {} = none) : parse ws = none := by unfold parse; rw [h]; rfl
theorem no_final {ws : List (List Nat)} {s : Rs} (h : runs ws {} = some s) (k : s.wants = true ∨ s.rest ≠ []) : parse ws = none := by
  unfold parse
  rw [h]
  show final s = none
  unfold final
  rw [if_pos (by rcases k with k | k; exact .inl k; exact .inr (.inl k))]
theorem step_done (w : List Nat) (s : Rs) (f : Fm) (d : Nat) (e : s.edge = none) (r : s.rest = []) : step w (s.took f d) = none := by
  obtain ⟨tp, rr, ee, ww⟩ := s
  simp only at e r
  subst e r
  rfl
theorem runs_cons_none {w : List Nat} {r : List (List Nat)} {s : Rs} (h : step w s = none) : runs (w :: r) s = none := by
  show (step w s).bind _ = none
  rw [h]; rfl
theorem runs_app_none {a b : List (List Nat)} {s : Rs} (h : runs a s = none) : runs (a ++ b) s = none := by rw [runs_app, h]; rfl
/-- a formula, and more words behind it -/
theorem no_more {ws : List (List Nat)} {f : Fm} {d : Nat} (h : Rd ws f d) (w : List Nat) (r : List (List Nat)) : parse (ws ++ w :: r) = none := by
  refine no_runs ?_
  rw [runs_app, h {} ready0, Option.bind_some]
  exact runs_cons_none (step_done w {} f d rfl rfl)
theorem wd_ne {cur l : List Nat} (h : cur ≠ []) : ∃ r rest, wd cur l = (cur ++ r) :: rest := by
  induction l generalizing cur with
  | nil => exact ⟨[], [], by simp [wd, emit, h]⟩
  | cons c r ih =>
    rw [wd]
    split
    · exact ⟨[], wd [] r, by simp [emit, h]⟩
    · split
      · exact ⟨[], [c] :: wd [] r, by simp [emit, h]⟩
      · obtain ⟨r2, rest, e⟩ := ih (cur := cur ++ [c]) (by simp)
        exact ⟨c :: r2, rest, by rw [e]; simp⟩
def badC (c : Nat) : Bool := !isD c && !decide (c ∈ signs.cps.toList) && !decide (c ∈ letters.cps.toList)
theorem badC_dec : badC 9 = true ∧ badC 10 = true ∧ badC 38 = true ∧ badC 44 = true ∧ badC 58 = true := by decide +kernel
theorem nameB_sign {l : List Nat} {c : Nat} (m : c ∈ l) (h : badC c = true) : nameB (T l) = false := by
  unfold badC at h
  simp only [Bool.and_eq_true, Bool.not_eq_true', decide_eq_false_iff_not] at h
  unfold nameB
  have : (T l).cps.toList.all (fun c => decide (c ∈ signs.cps.toList)) = false := by
    rw [T_list, List.all_eq_false]
    exact ⟨c, m, by simp only [decide_eq_true_eq]; exact h.1.2⟩
  rw [this]; simp
theorem stepB_bad {w : List Nat} {s : Rs} {c : Nat} (m : c ∈ w) (h : badC c = true) : stepB w s = none := by
  have hn := nameB_sign m h
  unfold badC at h
  simp only [Bool.and_eq_true, Bool.not_eq_true', decide_eq_false_iff_not] at h
  have no : ∀ k : List Nat, (∀ x ∈ k, badC x = false) → w ≠ k := fun k hk e => by
    subst e
    have := hk c m
    unfold badC at this
    simp only [Bool.and_eq_false_iff, Bool.not_eq_false', decide_eq_true_eq] at this
    rcases this with (q | q) | q
    · rw [h.1.1] at q; cases q
    · exact h.1.2 q
    · exact h.2 q
  unfold stepB
  rw [if_neg (no _ (by decide +kernel)), if_neg (no _ (by decide +kernel)), if_neg (no _ (by decide +kernel)), if_neg (no _ (by decide +kernel)), if_neg (no _ (by decide +kernel)), if_neg (no _ (by decide +kernel)), if_neg (by rw [hn]; simp)]
theorem step_ready {w : List Nat} {s : Rs} (r : Ready s) : step w s = stepB w s := by
  unfold step
  rw [r.edge]
  show (if s.wants = true then _ else _) = _
  rw [if_pos r.wants]
theorem step_bad {w : List Nat} {s : Rs} {c : Nat} (r : Ready s) (m : c ∈ w) (h : badC c = true) : step w s = none := by rw [step_ready r, stepB_bad m h]
/-- a bad sign in front -/
theorem bad_front {c : Nat} (h : badC c = true) (l : List Nat) : NoRead (c :: l) := by
  have hd : isD c = false := by unfold badC at h; simp only [Bool.and_eq_true, Bool.not_eq_true'] at h; exact h.1.1
  have hd := of_decide_eq_false hd
  unfold NoRead
  rw [wd, if_neg (fun e => hd (.inl e)), if_neg (fun e => hd (.inr e))]
  obtain ⟨r, rest, e⟩ := wd_ne (cur := [] ++ [c]) (l := l) (by simp)
  rw [e]
  exact no_runs (runs_cons_none (step_bad ready0 (c := c) (by simp) h))
/-- a bad sign behind -/
theorem bad_behind {c : Nat} (h : badC c = true) : ∀ f : Fm, f.ok = true → ∀ s : Rs, Ready s → s.rest = [] → runs (wd [] (f.txt ++ [c])) s = none
  | .bit b, _, s, r, _ => by
    have hd : isD c = false := by unfold badC at h; simp only [Bool.and_eq_true, Bool.not_eq_true'] at h; exact h.1.1
    simp only [Fm.txt]
    rw [wd_one (by simp) (by
      intro x m
      simp only [List.cons_append, List.nil_append, List.mem_cons, List.not_mem_nil, or_false] at m
      rcases m with rfl | rfl
      · cases b <;> rfl
      · exact hd)]
    exact runs_cons_none (step_bad r (c := c) (by simp) h)
  | .name x, ok, s, r, _ => by
    have hd : isD c = false := by unfold badC at h; simp only [Bool.and_eq_true, Bool.not_eq_true'] at h; exact h.1.1
    simp only [Fm.txt]
    rw [wd_one (by simp) (by
      intro y m
      rcases List.mem_append.mp m with m | m
      · exact (name_free ok).2 y m
      · rw [List.mem_singleton] at m; rw [m]; exact hd)]
    exact runs_cons_none (step_bad r (c := c) (by simp) h)
  | .edge e x, ok, s, r, _ => by
    have hd : isD c = false := by unfold badC at h; simp only [Bool.and_eq_true, Bool.not_eq_true'] at h; exact h.1.1
    simp only [Fm.txt]
    rw [List.append_assoc, List.cons_append, wd_kw (eL_free e).1 (eL_free e).2, wd_one (by simp) (by
      intro y m
      rcases List.mem_append.mp m with m | m
      · exact (name_free ok).2 y m
      · rw [List.mem_singleton] at m; rw [m]; exact hd)]
    have e1 : step (eL e) s = some { s with edge := some e } := by
      rw [step_ready r]
      unfold stepB
      cases e <;> rfl
    show (step (eL e) s).bind _ = none
    rw [e1]
    refine runs_cons_none ?_
    show (if nameB (T (x.cps.toList ++ [c])) = true then _ else _ : Option Rs) = none
    rw [nameB_sign (c := c) (by simp) h]; rfl
  | .not f, ok, s, r, e => by
    simp only [Fm.txt]
    rw [List.append_assoc, show notL ++ (f.txt ++ [c]) = [110, 111, 116] ++ 32 :: (f.txt ++ [c]) from rfl, wd_kw (by decide) (by decide)]
    obtain ⟨tp, rr, ee, ww⟩ := s
    obtain ⟨hw, he⟩ := r
    simp only at hw he e
    subst hw he e
    have e1 : step [110, 111, 116] ⟨tp, [], none, true⟩ = some ⟨{ tp with nots := tp.nots + 1 }, [], none, true⟩ := by
      show stepB [110, 111, 116] _ = _
      unfold stepB
      rw [if_neg (by decide), if_pos rfl]
    show (step [110, 111, 116] _).bind _ = none
    rw [e1]
    exact bad_behind h f ok ⟨{ tp with nots := tp.nots + 1 }, [], none, true⟩ ⟨rfl, rfl⟩ rfl
  | .joint w fs, ok, s, r, e => by
    have hd : isD c = false := by unfold badC at h; simp only [Bool.and_eq_true, Bool.not_eq_true'] at h; exact h.1.1
    rw [wd_end (⟨40 :: joinT w fs, 41, by simp [Fm.txt], rfl⟩ : End (Fm.joint w fs).txt), wd_one (w := [c]) (by simp) (by intro y m; rw [List.mem_singleton] at m; rw [m]; exact hd), runs_app, txt_rd _ ok s r, Option.bind_some]
    exact runs_cons_none (step_done [c] s _ _ r.edge e)
theorem no_kw (w : List Nat) (h : ∀ s : Rs, stepB w s = none) (r : List (List Nat)) : parse (w :: r) = none := no_runs (runs_cons_none (by rw [step_ready ready0]; exact h _))
/-- one word that is no word -/
theorem no_word {w : List Nat} (ne : w ≠ []) (hd : ∀ c ∈ w, isD c = false) (hn : nameB (T w) = false) (hk : w ≠ [110, 111, 116] ∧ w ≠ eL true ∧ w ≠ eL false ∧ w ≠ [48] ∧ w ≠ [49]) : NoRead w := by
  unfold NoRead
  rw [wd_one ne hd]
  refine no_kw w (fun s => ?_) []
  unfold stepB
  rw [if_neg (by rintro rfl; exact absurd (hd 40 (by simp)) (by decide)), if_neg hk.1, if_neg hk.2.1, if_neg hk.2.2.1, if_neg hk.2.2.2.1, if_neg hk.2.2.2.2, if_neg (by rw [hn]; simp)]
/-- in a bracket -/
def inB : Rs := inside {}
theorem runs_lb (r : List (List Nat)) : runs ([40] :: r) {} = runs r inB := by
  show (step [40] {}).bind _ = _
  rw [step_lb ready0]; rfl
theorem runs_rd_in {ws : List (List Nat)} {f : Fm} {d : Nat} (h : Rd ws f d) (r : List (List Nat)) : runs (ws ++ r) inB = runs r (inB.took f d) := by
  rw [runs_app, h inB ⟨rfl, rfl⟩]; rfl
theorem runs_joint (w : Bool) (f : Fm) (d : Nat) (r : List (List Nat)) : runs (jL w :: r) (inB.took f d) = runs r ⟨{ ({} : Br).take f d with joint := some w }, [{}], none, true⟩ := by
  show (step (jL w) ⟨({} : Br).take f d, [{}], none, false⟩).bind _ = _
  rw [step_joint w (.inl rfl)]; rfl
end K7

set_option Elab.async false
set_option linter.all false
set_option maxRecDepth 100000
set_option maxHeartbeats 4000000
namespace K7
open PySem PySem.Spec PyProof.Rows L2 GX NdefX
theorem noRead_dec {l : List Nat} (h : (parse (wd [] l)).isNone = true) : NoRead l := Option.isNone_iff_eq_none.mp h
theorem closed_bad : ∀ l ∈ ([[], [32, 32, 32], [110, 111, 116], [40, 41], eL true, eL false ++ [32, 48], eL true ++ [32, 110, 111, 116], [65], [49, 120], [50], [97, 95, 98], [110, 111, 116, 32, 97, 110, 100], RG.repL [122] 41] : List (List Nat)), NoRead l := by
  have : ∀ l ∈ ([[], [32, 32, 32], [110, 111, 116], [40, 41], eL true, eL false ++ [32, 48], eL true ++ [32, 110, 111, 116], [65], [49, 120], [50], [97, 95, 98], [110, 111, 116, 32, 97, 110, 100], RG.repL [122] 41] : List (List Nat)), (parse (wd [] l)).isNone = true := by decide +kernel
  exact fun l m => noRead_dec (this l m)
section
variable {f o : Fm} {z : Str}
theorem wd_sp1 (l : List Nat) : wd [] (32 :: l) = wd [] l := by rw [wd, if_pos rfl]; rfl
theorem beg1 {c : Nat} {l : List Nat} (h : isD c = true) : Beg (c :: l) := .inr ⟨c, l, rfl, h⟩
theorem wd_txt_app (f : Fm) {b : List Nat} (h : Beg b) : wd [] (f.txt ++ b) = wd [] f.txt ++ wd [] b := wd_app h _ _
theorem wd_some {l : List Nat} (f : Fm) (h : f.ok = true) (e : l = f.txt) : ∃ w r, wd [] l = w :: r := by
  subst e
  cases hw : wd [] f.txt with
  | cons w r => exact ⟨w, r, rfl⟩
  | nil =>
    have := txt_rd f h {} ready0
    rw [hw] at this
    cases this
theorem bt_and (hf : f.ok = true) (w : Bool) : NoRead (f.txt ++ 32 :: jL w) := by
  unfold NoRead
  rw [wd_txt_app f (beg1 rfl), wd_sp1, wd_one (jL_free w).1 (jL_free w).2]
  exact no_more (txt_rd f hf) _ _
theorem bt_two (hf : f.ok = true) (ho : o.ok = true) : NoRead (f.txt ++ 32 :: o.txt) := by
  unfold NoRead
  rw [wd_txt_app f (beg1 rfl), wd_sp1]
  obtain ⟨w, r, e⟩ := wd_some o ho rfl
  rw [e]
  exact no_more (txt_rd f hf) _ _
theorem bt_joint (hf : f.ok = true) (w : Bool) (l : List Nat) : NoRead (f.txt ++ 32 :: (jL w ++ 32 :: l)) := by
  unfold NoRead
  rw [wd_txt_app f (beg1 rfl), wd_sp1, wd_kw (jL_free w).1 (jL_free w).2]
  exact no_more (txt_rd f hf) _ _
theorem bt_or (l : List Nat) (w : Bool) : NoRead (jL w ++ 32 :: l) := by
  unfold NoRead
  rw [wd_kw (jL_free w).1 (jL_free w).2]
  refine no_kw _ (fun s => ?_) _
  have h : nameB (T (jL w)) = false := by cases w <;> decide +kernel
  unfold stepB
  rw [if_neg (by cases w <;> decide), if_neg (by cases w <;> decide), if_neg (by cases w <;> decide), if_neg (by cases w <;> decide), if_neg (by cases w <;> decide), if_neg (by cases w <;> decide), if_neg (by rw [h]; simp)]
theorem bt_open (hf : f.ok = true) : NoRead (40 :: f.txt) := by
  unfold NoRead
  rw [wd_lb]
  have h := runs_lb (wd [] f.txt)
  rw [txt_rd f hf inB ⟨rfl, rfl⟩] at h
  exact no_final h (.inr (by simp [Rs.took, inB, inside]))
theorem bt_close (hf : f.ok = true) : NoRead (f.txt ++ [41]) := by
  unfold NoRead
  rw [wd_txt_app f (beg1 rfl), wd_rb]
  exact no_more (txt_rd f hf) _ _
theorem bt_open2 (hf : f.ok = true) : NoRead (40 :: (40 :: (f.txt ++ [41]))) := by
  unfold NoRead
  rw [wd_lb, wd_lb, wd_txt_app f (beg1 rfl), wd_rb]
  have h := runs_lb ([40] :: (wd [] f.txt ++ [[41]]))
  rw [rd_br (txt_rd f hf) inB ⟨rfl, rfl⟩] at h
  exact no_final h (.inr (by simp [Rs.took, inB, inside]))
theorem bt_mixed (hf : f.ok = true) (ho : o.ok = true) (l : List Nat) : NoRead (40 :: (f.txt ++ 32 :: (jL false ++ 32 :: (o.txt ++ 32 :: (jL true ++ 32 :: l))))) := by
  unfold NoRead
  rw [wd_lb, wd_txt_app f (beg1 rfl), wd_sp1, wd_kw (jL_free _).1 (jL_free _).2, wd_txt_app o (beg1 rfl), wd_sp1, wd_kw (jL_free _).1 (jL_free _).2]
  refine no_runs ?_
  rw [runs_lb, runs_rd_in (txt_rd f hf), runs_joint, runs_app, txt_rd o ho _ ⟨rfl, rfl⟩, Option.bind_some]
  refine runs_cons_none ?_
  show stepA (jL true) ⟨({ ({} : Br).take f f.dep with joint := some false } : Br).take o o.dep, [{}], none, false⟩ = none
  unfold stepA Br.take
  simp [jL]
theorem bt_andb (hf : f.ok = true) : NoRead (40 :: (f.txt ++ 32 :: (jL false ++ [41]))) := by
  unfold NoRead
  rw [wd_lb, wd_txt_app f (beg1 rfl), wd_sp1, wd_app (beg1 rfl), wd_one (jL_free _).1 (jL_free _).2, wd_rb]
  refine no_runs ?_
  rw [runs_lb, runs_rd_in (txt_rd f hf)]
  show runs (jL false :: [[41]]) _ = none
  rw [runs_joint]
  refine runs_cons_none ?_
  rw [step_ready ⟨rfl, rfl⟩]
  unfold stepB
  rw [if_neg (by decide), if_neg (by decide), if_neg (by decide), if_neg (by decide), if_neg (by decide), if_neg (by decide), if_neg (by decide +kernel)]
theorem step_rise {s : Rs} (r : Bool) (h : Ready s) : step (eL r) s = some { s with edge := some r } := by
  rw [step_ready h]
  unfold stepB
  cases r <;> rfl
theorem bt_edge {w : List Nat} {rest : List (List Nat)} (r : Bool) (h : nameB (T w) = false) : parse (eL r :: w :: rest) = none := by
  refine no_runs ?_
  show (step (eL r) {}).bind _ = none
  rw [step_rise r ready0, Option.bind_some]
  refine runs_cons_none ?_
  show (if nameB (T w) = true then _ else _ : Option Rs) = none
  rw [h]; rfl
theorem bt_riseb (l : List Nat) : NoRead (eL true ++ 32 :: (40 :: l)) := by
  unfold NoRead
  rw [wd_kw (eL_free _).1 (eL_free _).2, wd_lb]
  exact bt_edge true (by decide +kernel)
theorem bt_rise2 (hz : nameB z = true) : NoRead (eL true ++ 32 :: (z.cps.toList ++ 32 :: z.cps.toList)) := by
  unfold NoRead
  rw [wd_kw (eL_free _).1 (eL_free _).2, wd_kw (name_free hz).1 (name_free hz).2, wd_name hz]
  have h := rd_edge (w := z.cps.toList) true (by rw [T_of]; exact hz)
  exact no_more h _ []
theorem bt_risefall (l : List Nat) : NoRead (eL true ++ 32 :: (eL false ++ 32 :: l)) := by
  unfold NoRead
  rw [wd_kw (eL_free _).1 (eL_free _).2, wd_kw (eL_free _).1 (eL_free _).2]
  exact bt_edge true (by decide +kernel)
theorem bt_behind (hf : f.ok = true) {c : Nat} (h : badC c = true) : NoRead (f.txt ++ [c]) := no_runs (bad_behind h f hf {} ready0 rfl)
theorem bt_amp (hz : nameB z = true) : NoRead (z.cps.toList ++ 32 :: (38 :: (32 :: z.cps.toList))) := by
  unfold NoRead
  rw [wd_kw (name_free hz).1 (name_free hz).2, show (38 :: 32 :: z.cps.toList) = [38] ++ 32 :: z.cps.toList from rfl, wd_kw (by decide) (by decide)]
  have h := rd_name (w := z.cps.toList) (by rw [T_of]; exact hz)
  exact no_more h _ _
theorem name_kw {l : List Nat} {c : Nat} (ne : ∀ k ∈ ([[110, 111, 116], eL true, eL false, [48], [49]] : List (List Nat)), c ∉ k) (m : c ∈ l) : l ≠ [110, 111, 116] ∧ l ≠ eL true ∧ l ≠ eL false ∧ l ≠ [48] ∧ l ≠ [49] := by
  refine ⟨?_, ?_, ?_, ?_, ?_⟩ <;> (intro e; subst e; exact ne _ (by simp) m)
theorem bt_dot (hz : nameB z = true) : NoRead (z.cps.toList ++ [46]) := by
  refine no_word (by simp) ?_ name_dot (name_kw (c := 46) (by decide +kernel) (by simp))
  intro c m
  rcases List.mem_append.mp m with m | m
  · exact (name_free hz).2 c m
  · rw [List.mem_singleton] at m; subst m; rfl
theorem bt_dot2 (hz : nameB z = true) : NoRead (46 :: z.cps.toList) := by
  refine no_word (by simp) ?_ dot_name (name_kw (c := 46) (by decide +kernel) (by simp))
  intro c m
  rcases List.mem_cons.mp m with m | m
  · subst m; rfl
  · exact (name_free hz).2 c m
theorem bt_sign (hz : nameB z = true) {c : Nat} (h : badC c = true) (l : List Nat) (hl : ∀ x ∈ l, isD x = false) : NoRead (z.cps.toList ++ c :: l) := by
  have hd : isD c = false := by unfold badC at h; simp only [Bool.and_eq_true, Bool.not_eq_true'] at h; exact h.1.1
  unfold NoRead
  rw [wd_one (by simp) (by
    intro x m
    rcases List.mem_append.mp m with m | m
    · exact (name_free hz).2 x m
    · rcases List.mem_cons.mp m with m | m
      · subst m; exact hd
      · exact hl x m)]
  exact no_runs (runs_cons_none (step_bad ready0 (c := c) (by simp) h))
end
end K7

set_option Elab.async false
set_option linter.all false
set_option maxRecDepth 100000
set_option maxHeartbeats 4000000
namespace K7
open PySem PySem.Spec PyProof.Rows L2 GX NdefX
/-! ### lists of texts, told as wholes -/
def GivesT (σ : L2.St) (te : TE) (l : List Nat) : Prop := ∀ (H : Hp) (Q : VK), Q (.str (T l)) H → te σ H Q
def GivesTs (σ : L2.St) (ta : TA) (ls : List (List Nat)) : Prop := ∀ (H : Hp) (Q : List V → Hp → Prop), Q (ls.map fun l => .str (T l)) H → ta σ H Q
theorem gT_c (σ : L2.St) (x : Str) : GivesT σ (tC (.str x)) x.cps.toList := fun H Q h => by
  rw [T_of] at h
  exact h
theorem gT_v {σ : L2.St} {i : Nat} {l : List Nat} (e : σ[i]? = some (some (.str (T l)))) : GivesT σ (tVar i) l := fun H Q h => ⟨_, e, h⟩
theorem gT_add {σ : L2.St} {a b : TE} {l m : List Nat} (h1 : GivesT σ a l) (h2 : GivesT σ b m) (hl : l.length + m.length ≤ 1000000) : GivesT σ (tOp (fun x y H Q => ∃ i j, x = V.str i ∧ y = V.str j ∧ i.length + j.length ≤ sizeLine ∧ Q (V.str (i ++ j)) H) a b) (l ++ m) := fun H Q h => by
  refine h1 H _ (h2 H _ ⟨_, _, rfl, rfl, by rw [T_len, T_len, sizeLine_eq]; omega, ?_⟩)
  rw [T_app]; exact h
theorem gT_rep {σ : L2.St} {x : Str} {n : Nat} {i : Int} (e : i = (n : Nat)) (hn : n ≤ 1000) (hx : x.length ≤ 1000) : GivesT σ (tOp RG.rRepS (tC (.str x)) (tC (.int i))) (RG.repL x.cps.toList n) := fun H Q h => by
  refine ⟨x, n, rfl, by rw [e], hn, hx, fun b eb => ?_⟩
  rw [T_eq eb]; exact h
theorem gTs_nil {σ : L2.St} : GivesTs σ tNil [] := fun H Q h => h
theorem gTs_cons {σ : L2.St} {te : TE} {ta : TA} {l : List Nat} {ls : List (List Nat)} (h1 : GivesT σ te l) (h2 : GivesTs σ ta ls) : GivesTs σ (tCons te ta) (l :: ls) := fun H Q h => h1 H _ (h2 H _ h)
theorem gives_list {σ : L2.St} {ta : TA} {ls : List (List Nat)} {H : Hp} {Q : VK} (h : GivesTs σ ta ls) (hl : ls.length ≤ 1000) (q : ∀ L, H L = none → Q (.ref L) (upd H L (.lst (ls.map fun l => .str (T l))))) : tLst ta σ H Q :=
  h H _ ⟨by rw [List.length_map, sizeLine_eq]; omega, q⟩
def spBadT : Sp := fun vs H Q _ => ∃ (f o : Fm) (z : Str), vs = [.str (T f.txt), .str (T o.txt), .str z] ∧ f.ok = true ∧ o.ok = true ∧ nameB z = true ∧ f.txt.length ≤ 10000 ∧ o.txt.length ≤ 10000 ∧
  ∀ (L : Addr) (ls : List (List Nat)) (H' : Hp), Same H H' → H' L = some (.lst (ls.map fun l => .str (T l))) → (∀ l ∈ ls, l.length ≤ 100000 ∧ NoRead l) → Q (.ref L) H'
theorem c0 : (Str.ofString "").cps.toList = [] := by decide +kernel
theorem c1 : (Str.ofString "   ").cps.toList = [32, 32, 32] := by decide +kernel
theorem c2 : (Str.ofString "not").cps.toList = [110, 111, 116] := by decide +kernel
theorem c3 : (Str.ofString " and").cps.toList = 32 :: jL false := by decide +kernel
theorem c4 : (Str.ofString "or ").cps.toList = jL true ++ [32] := by decide +kernel
theorem c5 : (Str.ofString "(").cps.toList = [40] := by decide +kernel
theorem c6 : (Str.ofString ")").cps.toList = [41] := by decide +kernel
theorem c7 : (Str.ofString "()").cps.toList = [40, 41] := by decide +kernel
theorem c8 : (Str.ofString " ").cps.toList = [32] := by decide +kernel
theorem c9 : (Str.ofString " and ").cps.toList = 32 :: (jL false ++ [32]) := by decide +kernel
theorem c10 : (Str.ofString " or ").cps.toList = 32 :: (jL true ++ [32]) := by decide +kernel
theorem c11 : (Str.ofString " and)").cps.toList = 32 :: (jL false ++ [41]) := by decide +kernel
theorem c12 : (Str.ofString "rise (").cps.toList = eL true ++ [32, 40] := by decide +kernel
theorem c13 : (Str.ofString "rise").cps.toList = eL true := by decide +kernel
theorem c14 : (Str.ofString "fall 0").cps.toList = eL false ++ [32, 48] := by decide +kernel
theorem c15 : (Str.ofString "rise not").cps.toList = eL true ++ [32, 110, 111, 116] := by decide +kernel
theorem c16 : (Str.ofString "rise ").cps.toList = eL true ++ [32] := by decide +kernel
theorem c17 : (Str.ofString "\n").cps.toList = [10] := by decide +kernel
theorem c18 : (Str.ofString "\t").cps.toList = [9] := by decide +kernel
theorem c19 : (Str.ofString "A").cps.toList = [65] := by decide +kernel
theorem c20 : (Str.ofString "1x").cps.toList = [49, 120] := by decide +kernel
theorem c21 : (Str.ofString ".").cps.toList = [46] := by decide +kernel
theorem c22 : (Str.ofString "2").cps.toList = [50] := by decide +kernel
theorem c23 : (Str.ofString "a_b").cps.toList = [97, 95, 98] := by decide +kernel
theorem c24 : (Str.ofString " & ").cps.toList = [32, 38, 32] := by decide +kernel
theorem c25 : (Str.ofString "((").cps.toList = [40, 40] := by decide +kernel
theorem c26 : (Str.ofString "not and").cps.toList = [110, 111, 116, 32, 97, 110, 100] := by decide +kernel
theorem c27 : (Str.ofString "rise fall ").cps.toList = eL true ++ 32 :: (eL false ++ [32]) := by decide +kernel
theorem c28 : (Str.ofString ",").cps.toList = [44] := by decide +kernel
theorem c29 : (Str.ofString ":").cps.toList = [58] := by decide +kernel
theorem c30 : (Str.ofString "not ").cps.toList = notL := by decide +kernel
theorem c31 : (Str.ofString "z").cps.toList = [122] := by decide +kernel
theorem jl_len : (jL false).length = 3 ∧ (jL true).length = 2 ∧ (eL true).length = 4 ∧ (eL false).length = 4 ∧ notL.length = 4 ∧ (RG.repL [122] 41).length = 41 := by decide +kernel
section
variable {P : Program} {w : World} {K : PySem.W.Frag} {mg : Str → Option Value} {base : Heap}
theorem ok_badts {k : Nat} (D : Pr P K mg) : FnOk P w K mg base CX0 (k + 1) D._law_bad_texts.f D._law_bad_texts.fd ["text", "other", "name"] spBadT := by
  refine D._law_bad_texts.F.ok sc__law_bad_texts (fun vs H Q E h => ?_) (fun cdv A outer s H vs Q E hr h => ?_)
  · obtain ⟨f, o, z, rfl, _⟩ := h
    rfl
  · obtain ⟨f, o, z, rfl, hf, ho, hz, lf, lo, q⟩ := h
    have lz : z.cps.toList.length ≤ 40 := by rw [Array.length_toList]; exact (nameS_of hz).2
    have zs : z = T z.cps.toList := (T_of z).symm
    obtain ⟨zl, ezl⟩ : ∃ zl, zl = z.cps.toList := ⟨_, rfl⟩
    rw [← ezl] at zs lz
    obtain ⟨j1, j2, j3, j4, j5, j6⟩ := jl_len
    refine ⟨_, (pss_one (ps_ret (pe_lst (pa_cons pe_str (pa_cons pe_str (pa_cons pe_str (pa_cons (pe_op op_add_str (pv 0) pe_str) (pa_cons (pe_op op_add_str pe_str (pv 0)) (pa_cons (pe_op op_add_str pe_str (pv 0)) (pa_cons (pe_op op_add_str (pv 0) pe_str) (pa_cons pe_str (pa_cons (pe_op op_add_str (pe_op op_add_str (pv 0) pe_str) (pv 1)) (pa_cons (pe_op op_add_str (pe_op op_add_str (pv 0) pe_str) (pv 1)) (pa_cons (pe_op op_add_str (pe_op op_add_str (pv 0) pe_str) (pv 0)) (pa_cons (pe_op op_add_str (pe_op op_add_str (pe_op op_add_str (pe_op op_add_str (pe_op op_add_str (pe_op op_add_str pe_str (pv 0)) pe_str) (pv 1)) pe_str) (pv 0)) pe_str) (pa_cons (pe_op op_add_str (pe_op op_add_str pe_str (pv 0)) pe_str) (pa_cons (pe_op op_add_str (pe_op op_add_str pe_str (pv 2)) pe_str) (pa_cons pe_str (pa_cons pe_str (pa_cons pe_str (pa_cons (pe_op op_add_str (pe_op op_add_str (pe_op op_add_str pe_str (pv 2)) pe_str) (pv 2)) (pa_cons (pe_op op_add_str (pv 0) pe_str) (pa_cons (pe_op op_add_str pe_str (pv 0)) (pa_cons (pe_op op_add_str (pv 0) pe_str) (pa_cons pe_str (pa_cons pe_str (pa_cons (pe_op op_add_str (pv 2) pe_str) (pa_cons (pe_op op_add_str pe_str (pv 2)) (pa_cons pe_str (pa_cons (pe_op RG.op_repS pe_str pe_int) (pa_cons pe_str (pa_cons (pe_op op_add_str (pe_op op_add_str (pv 2) pe_str) (pv 2)) (pa_cons (pe_op op_add_str (pe_op op_add_str pe_str (pv 0)) pe_str) (pa_cons pe_str (pa_cons (pe_op op_add_str pe_str (pv 2)) (pa_cons (pe_op op_add_str (pe_op op_add_str (pv 2) pe_str) (pv 2)) (pa_cons (pe_op op_add_str (pv 2) pe_str) (pa_cons (pe_op op_add_str (pe_op op_add_str pe_str (pv 0)) pe_str) pa_nil)))))))))))))))))))))))))))))))))))))), ?_⟩
    rw [zs]
    apply gives_list
    · repeat' (first | exact gTs_nil | apply gTs_cons | apply gT_add | exact gT_rep (n := 41) rfl (by decide) (by decide) | exact gT_c _ _ | exact gT_v rfl)
      all_goals (simp only [c0, c1, c2, c3, c4, c5, c6, c7, c8, c9, c10, c11, c12, c13, c14, c15, c16, c17, c18, c19, c20, c21, c22, c23, c24, c25, c26, c27, c28, c29, c30, c31, List.length_append, List.length_cons, List.length_nil, j1, j2, j3, j4, j5, j6]; omega)
    · show 35 ≤ 1000; decide
    · intro L nL
      refine q L _ _ (same_upd nL) upd_same ?_
      simp only [c0, c1, c2, c3, c4, c5, c6, c7, c8, c9, c10, c11, c12, c13, c14, c15, c16, c17, c18, c19, c20, c21, c22, c23, c24, c25, c26, c27, c28, c29, c30, c31, ezl]
      have lz2 : z.cps.toList.length ≤ 40 := by rw [← ezl]; exact lz
      have cb := closed_bad
      obtain ⟨d9, d10, d38, d44, d58⟩ := badC_dec
      have fz : ∀ x ∈ z.cps.toList, isD x = false := (name_free hz).2
      have len : ∀ {l : List Nat} {n : Nat}, l.length = n → n ≤ 100000 → l.length ≤ 100000 := fun e h => e ▸ h
      have nr : ∀ {l m : List Nat}, l = m → NoRead m → NoRead l := fun e h => e ▸ h
      intro l m
      simp only [List.mem_cons, List.not_mem_nil, or_false] at m
      rcases m with rfl | rfl | rfl | rfl | rfl | rfl | rfl | rfl | rfl | rfl | rfl | rfl | rfl | rfl | rfl | rfl | rfl | rfl | rfl | rfl | rfl | rfl | rfl | rfl | rfl | rfl | rfl | rfl | rfl | rfl | rfl | rfl | rfl | rfl | rfl
      all_goals refine ⟨by simp only [List.length_append, List.length_cons, List.length_nil, j1, j2, j3, j4, j5, j6]; omega, ?_⟩
      · exact cb _ (by simp)
      · exact cb _ (by simp)
      · exact cb _ (by simp)
      · exact bt_and hf false
      · exact nr (by simp) (bt_or f.txt true)
      · exact bt_open hf
      · exact bt_close hf
      · exact cb _ (by simp)
      · exact nr (by simp) (bt_two hf ho)
      · exact nr (by simp) (bt_joint hf false o.txt)
      · exact nr (by simp) (bt_joint hf true f.txt)
      · exact nr (by simp) (bt_mixed hf ho (f.txt ++ [41]))
      · exact nr (by simp) (bt_andb hf)
      · exact nr (by simp) (bt_riseb (z.cps.toList ++ [41]))
      · exact cb _ (by simp)
      · exact cb _ (by simp)
      · exact cb _ (by simp)
      · exact nr (by simp) (bt_rise2 hz)
      · exact bt_behind hf d10
      · exact bad_front d9 _
      · exact bt_behind hf d9
      · exact cb _ (by simp)
      · exact cb _ (by simp)
      · exact bt_dot hz
      · exact bt_dot2 hz
      · exact cb _ (by simp)
      · exact cb _ (by simp)
      · exact cb _ (by simp)
      · exact nr (by simp) (bt_amp hz)
      · exact nr (by simp) (bt_open2 hf)
      · exact cb _ (by simp)
      · exact nr (by simp) (bt_risefall z.cps.toList)
      · exact nr (by simp) (bt_sign hz d44 z.cps.toList fz)
      · exact bt_sign hz d58 [] (by simp)
      · exact bt_behind (f := .not f) hf d10
end
end K7

set_option Elab.async false
set_option linter.all false
set_option maxRecDepth 100000
set_option maxHeartbeats 4000000
namespace K7
open PySem PySem.Spec PyProof.Rows L2 GX NdefX
/-! ### what is no formula -/
mutual
theorem wt_data : ∀ f : Fm, wtD f.data ≤ 5 * f.cnt
  | .bit b => by simp [Fm.data, Fm.cnt, wtD, wtL]
  | .name x => by simp [Fm.data, Fm.cnt, wtD, wtL]
  | .edge r x => by simp [Fm.data, Fm.cnt, wtD, wtL]
  | .not f => by have := wt_data f; simp only [Fm.data, Fm.cnt, wtD, wtL]; omega
  | .joint w fs => by have := wt_dataL fs; simp only [Fm.data, Fm.cnt, wtD, wtL]; omega
theorem wt_dataL : ∀ r : List Fm, wtL (dataL r) ≤ 5 * cntL r
  | [] => by simp [dataL, wtL]
  | f :: r => by have := wt_data f; have := wt_dataL r; simp only [dataL, wtL, cntL]; omega
end
theorem str_small (x : String) (h : (Str.ofString x).cps.size ≤ 1000) : strD (.str (Str.ofString x)) = true := decide_eq_true (by omega)
theorem name_strD {z : Str} (h : nameB z = true) : strD (.str z) = true := decide_eq_true (by have := (nameS_of h).2; omega)
mutual
theorem str_data : ∀ f : Fm, f.ok = true → strD f.data = true
  | .bit b, _ => by simp only [Fm.data, strD, strL]; decide
  | .name x, h => by simp only [Fm.data, strD, strL]; rw [show decide (x.cps.size ≤ 1000000) = true from name_strD h]; decide
  | .edge r x, h => by simp only [Fm.data, strD, strL]; rw [show decide (x.cps.size ≤ 1000000) = true from name_strD h]; cases r <;> decide
  | .not f, h => by simp only [Fm.data, strD, strL]; rw [str_data f h]; decide
  | .joint w fs, h => by
    simp only [Fm.ok, Bool.and_eq_true, decide_eq_true_eq] at h
    simp only [Fm.data, strD, strL]; rw [str_dataL fs h.2]; cases w <;> decide
theorem str_dataL : ∀ r : List Fm, okL r = true → strL (dataL r) = true
  | [], _ => rfl
  | f :: r, h => by
    have h2 : f.ok = true ∧ okL r = true := by simpa [okL] using h
    simp only [dataL, strL]; rw [str_data f h2.1, str_dataL r h2.2]; rfl
end
theorem arg_data {H : Hp} {v : V} {f : Fm} (h : Dh H v f.data) (ok : f.ok = true) (hc : f.cnt ≤ 10000) : Arg H v f.data :=
  ⟨h, domL_data 40 [f], by have := wt_data f; omega, str_data f ok⟩
theorem form_data (f : Fm) (ok : f.ok = true) : formL 40 [f.data] = decide (f.dep ≤ 40) := by
  have := formL_data 40 [f] (by simp) (by simpa using ok)
  rw [show [f.data] = [f].map Fm.data from rfl, this]
  refine decide_eq_decide.mpr ?_
  simp [depL]
def BadL (n : Nat) (l : List PyData) : Prop := formL n l = false ∧ domL n l = true
theorem badL_top (n : Nat) {l : List PyData} (h1 : l.all domD = true) (h2 : l.all partD = false) : BadL (n + 1) l := by
  unfold BadL formL domL
  rw [h1, h2]; exact ⟨rfl, rfl⟩
theorem badL_down (n : Nat) {l : List PyData} (h1 : l.all domD = true) (h2 : l.all partD = true) (ne : l.flatMap belowD ≠ []) (h : BadL n (l.flatMap belowD)) : BadL (n + 1) l := by
  unfold BadL formL domL
  rw [h1, h2, if_neg ne, h.1, h.2]; exact ⟨rfl, rfl⟩
def Bad (d : PyData) : Prop := BadL 40 [d] ∧ wtD d ≤ 100000 ∧ strD d = true
theorem Bad.arg {H : Hp} {v : V} {d : PyData} (b : Bad d) (h : Dh H v d) : Arg H v d := ⟨h, b.1.2, b.2.1, b.2.2⟩
/-! ### data, told as wholes -/
def GivesD (σ : L2.St) (H0 : Hp) (te : TE) (d : PyData) : Prop := ∀ (H : Hp) (Q : VK), Same H0 H → (∀ v H', Same H H' → Dh H' v d → Q v H') → te σ H Q
def GivesDs (σ : L2.St) (H0 : Hp) (ta : TA) (ds : List PyData) : Prop := ∀ (H : Hp) (Q : List V → Hp → Prop), Same H0 H → (∀ vs H', Same H H' → DhAll H' vs ds → Q vs H') → ta σ H Q
section
variable {σ : L2.St} {H0 : Hp}
theorem gd_non : GivesD σ H0 (tC .non) .none := fun H Q _ h => h _ _ (Same.refl _) .non
theorem gd_bl {b : Bool} : GivesD σ H0 (tC (.bl b)) (.bool b) := fun H Q _ h => h _ _ (Same.refl _) (.bl b)
theorem gd_int {i : Int} : GivesD σ H0 (tC (.int i)) (.int i) := fun H Q _ h => h _ _ (Same.refl _) (.int i)
theorem gd_str {x : Str} : GivesD σ H0 (tC (.str x)) (.str x) := fun H Q _ h => h _ _ (Same.refl _) (.str x)
theorem gd_var {i : Nat} {v : V} {d : PyData} (e : σ[i]? = some (some v)) (hd : Dh H0 v d) : GivesD σ H0 (tVar i) d := fun H Q s h => ⟨v, e, h _ _ (Same.refl _) (hd.same s)⟩
theorem gds_nil : GivesDs σ H0 tNil [] := fun H Q _ h => h _ _ (Same.refl _) .nil
theorem gds_cons {te : TE} {ta : TA} {d : PyData} {ds : List PyData} (h1 : GivesD σ H0 te d) (h2 : GivesDs σ H0 ta ds) : GivesDs σ H0 (tCons te ta) (d :: ds) := fun H Q s h =>
  h1 H _ s fun v H1 s1 hv => h2 H1 _ (s.trans s1) fun vs H2 s2 hvs => h _ _ (s1.trans s2) (.cons (hv.same s2) hvs)
theorem gd_tup {ta : TA} {ds : List PyData} (h1 : GivesDs σ H0 ta ds) (hl : ds.length ≤ 1000) : GivesD σ H0 (tTup ta) (.tuple ds) := fun H Q s h =>
  h1 H _ s fun vs H1 s1 hvs => ⟨by rw [hvs.length, sizeLine_eq]; omega, fun p np => h _ _ (s1.trans (same_upd np)) (.tup upd_same (DhAll.same (same_upd np) _ _ hvs))⟩
theorem gd_lst {ta : TA} {ds : List PyData} (h1 : GivesDs σ H0 ta ds) (hl : ds.length ≤ 1000) : GivesD σ H0 (tLst ta) (.list ds) := fun H Q s h =>
  h1 H _ s fun vs H1 s1 hvs => ⟨by rw [hvs.length, sizeLine_eq]; omega, fun p np => h _ _ (s1.trans (same_upd np)) (.lst upd_same (DhAll.same (same_upd np) _ _ hvs))⟩
theorem gd_dot {i : Nat} {z : Str} (e : σ[i]? = some (some (.str z))) (hz : z.length ≤ 1000) : GivesD σ H0 (tOp (fun x y H Q => ∃ i j, x = V.str i ∧ y = V.str j ∧ i.length + j.length ≤ sizeLine ∧ Q (V.str (i ++ j)) H) (tVar i) (tC (.str (Str.ofString ".")))) (.str (z ++ Str.ofString ".")) := fun H Q s h =>
  ⟨_, e, _, _, rfl, rfl, by rw [show (Str.ofString ".").length = 1 by decide, sizeLine_eq]; omega, h _ _ (Same.refl _) (.str _)⟩
theorem gives_dlist {ta : TA} {ds : List PyData} {Q : VK} (h : GivesDs σ H0 ta ds) (hl : ds.length ≤ 1000) (q : ∀ L vs H', Same H0 H' → H' L = some (.lst vs) → DhAll H' vs ds → Q (.ref L) H') : tLst ta σ H0 Q :=
  h H0 _ (Same.refl _) fun vs H1 s1 hvs => ⟨by rw [hvs.length, sizeLine_eq]; omega, fun L nL => q L vs _ (s1.trans (same_upd nL)) upd_same (DhAll.same (same_upd nL) _ _ hvs)⟩
end
def spBadF : Sp := fun vs H Q _ => ∃ (v : V) (f : Fm) (z : Str), vs = [v, .str z] ∧ Dh H v f.data ∧ f.ok = true ∧ f.cnt = 1 ∧ nameB z = true ∧
  ∀ (L : Addr) (xs : List V) (ds : List PyData) (H' : Hp), Same H H' → H' L = some (.lst xs) → DhAll H' xs ds → (∀ d ∈ ds, Bad d) → Q (.ref L) H'
section
variable {P : Program} {w : World} {K : PySem.W.Frag} {mg : Str → Option Value} {base : Heap}
theorem ok_badfs {k : Nat} (D : Pr P K mg) : FnOk P w K mg base CX0 (k + 1) D._law_bad_formulas.f D._law_bad_formulas.fd ["leaf", "name"] spBadF := by
  refine D._law_bad_formulas.F.ok sc__law_bad_formulas (fun vs H Q E h => ?_) (fun cdv A outer s H vs Q E hr h => ?_)
  · obtain ⟨v, f, z, rfl, _⟩ := h
    rfl
  · obtain ⟨v, f, z, rfl, hd, ok, hc, hz, q⟩ := h
    have lz : z.length ≤ 40 := (nameS_of hz).2
    refine ⟨_, (pss_one (ps_ret (pe_lst (pa_cons pe_non (pa_cons pe_int (pa_cons (pv 1) (pa_cons (pe_lst pa_nil) (pa_cons (pe_tup pa_nil) (pa_cons (pe_tup (pa_cons pe_str (pa_cons pe_int pa_nil))) (pa_cons (pe_tup (pa_cons pe_str (pa_cons (pe_un un_neg pe_int) pa_nil))) (pa_cons (pe_tup (pa_cons pe_str (pa_cons pe_bl pa_nil))) (pa_cons (pe_tup (pa_cons pe_str pa_nil)) (pa_cons (pe_tup (pa_cons pe_str (pa_cons pe_str pa_nil))) (pa_cons (pe_tup (pa_cons pe_str (pa_cons pe_str pa_nil))) (pa_cons (pe_tup (pa_cons pe_str (pa_cons pe_int pa_nil))) (pa_cons (pe_tup (pa_cons pe_str (pa_cons pe_str pa_nil))) (pa_cons (pe_lst (pa_cons pe_str (pa_cons (pv 1) pa_nil))) (pa_cons (pe_tup (pa_cons pe_str (pa_cons (pe_tup (pa_cons pe_str (pa_cons (pv 1) pa_nil))) pa_nil))) (pa_cons (pe_tup (pa_cons pe_str (pa_cons pe_str pa_nil))) (pa_cons (pe_tup (pa_cons pe_str pa_nil)) (pa_cons (pe_tup (pa_cons pe_str (pa_cons (pv 1) pa_nil))) (pa_cons (pe_tup (pa_cons pe_str (pa_cons (pv 0) (pa_cons (pv 0) pa_nil)))) (pa_cons (pe_tup (pa_cons pe_str (pa_cons (pe_tup (pa_cons (pv 0) pa_nil)) pa_nil))) (pa_cons (pe_tup (pa_cons pe_str (pa_cons (pe_tup pa_nil) pa_nil))) (pa_cons (pe_tup (pa_cons pe_str (pa_cons (pe_lst (pa_cons (pv 0) (pa_cons (pv 0) pa_nil))) pa_nil))) (pa_cons (pe_tup (pa_cons pe_str (pa_cons (pe_tup (pa_cons (pv 0) (pa_cons (pv 0) pa_nil))) pa_nil))) (pa_cons (pe_tup (pa_cons pe_str (pa_cons (pe_tup (pa_cons (pv 0) (pa_cons (pe_tup (pa_cons pe_str (pa_cons pe_int pa_nil))) pa_nil))) pa_nil))) (pa_cons (pe_tup (pa_cons pe_str (pa_cons (pe_tup (pa_cons pe_str (pa_cons (pe_tup (pa_cons pe_str (pa_cons (pe_op op_add_str (pv 1) pe_str) pa_nil))) pa_nil))) pa_nil))) (pa_cons (pe_tup (pa_cons pe_str (pa_cons (pe_tup (pa_cons (pe_tup (pa_cons pe_str (pa_cons (pe_tup (pa_cons (pv 0) (pa_cons (pe_tup (pa_cons pe_str (pa_cons pe_str pa_nil))) pa_nil))) pa_nil))) (pa_cons (pv 0) pa_nil))) pa_nil))) pa_nil))))))))))))))))))))))))))))), ?_⟩
    apply gives_dlist
    · repeat' (first | exact gds_nil | apply gds_cons | apply gd_tup | apply gd_lst | exact gd_non | exact gd_bl | exact gd_int | exact gd_str | exact gd_var (d := f.data) rfl hd | exact gd_var (d := .str z) rfl (.str z) | exact gd_dot rfl (by omega) | exact fun H Q s h => ⟨1, rfl, h _ _ (Same.refl _) (.int (-1))⟩)
      all_goals (simp only [List.length_cons, List.length_nil]; omega)
    · simp only [List.length_cons, List.length_nil]; omega
    · intro L vs H' s' eL hds
      refine q L vs _ H' s' eL hds ?_
      have sf := str_data f ok
      have wf := wt_data f
      have pf := part_data ok
      have df := dom_data f
      have bf : belowD f.data = [] := by
        rw [below_data]
        have h1 := cnt_subs f
        have h2 := len_cnt f.subs
        have : f.subs.length = 0 := by omega
        rw [List.eq_nil_of_length_eq_zero this]; rfl
      have sz : decide (z.cps.size ≤ 1000000) = true := name_strD hz
      have ld : (z ++ Str.ofString ".").length ≤ 41 := by rw [lenApp, show (Str.ofString ".").length = 1 by decide]; omega
      have szd : decide ((z ++ Str.ofString ".").cps.size ≤ 1000000) = true := decide_eq_true (by have : (z ++ Str.ofString ".").cps.size ≤ 41 := ld; omega)
      have nzd : nameB (z ++ Str.ofString ".") = false := by
        rw [show (Str.ofString ".") = T [46] by decide +kernel, ← T_of z, T_app]; exact name_dot
      have nor : nameB (Str.ofString "or") = false := by decide +kernel
      have kx1 : ((Str.ofString "xor" : Str) = Str.ofString "bit") = False := eq_false (by decide +kernel)
      have kx2 : ((Str.ofString "xor" : Str) = Str.ofString "not") = False := eq_false (by decide +kernel)
      have kx3 : ((Str.ofString "xor" : Str) = Str.ofString "and") = False := eq_false (by decide +kernel)
      have kx4 : ((Str.ofString "xor" : Str) = Str.ofString "or") = False := eq_false (by decide +kernel)
      have kx5 : ((Str.ofString "xor" : Str) = Str.ofString "name") = False := eq_false (by decide +kernel)
      have kx6 : ((Str.ofString "xor" : Str) = Str.ofString "rise") = False := eq_false (by decide +kernel)
      have kx7 : ((Str.ofString "xor" : Str) = Str.ofString "fall") = False := eq_false (by decide +kernel)
      intro d m
      simp only [List.mem_cons, List.not_mem_nil, or_false] at m
      rcases m with rfl | rfl | rfl | rfl | rfl | rfl | rfl | rfl | rfl | rfl | rfl | rfl | rfl | rfl | rfl | rfl | rfl | rfl | rfl | rfl | rfl | rfl | rfl | rfl | rfl | rfl
      · exact ⟨⟨by decide +kernel, by decide +kernel⟩, by decide +kernel, by decide +kernel⟩
      · exact ⟨⟨by decide +kernel, by decide +kernel⟩, by decide +kernel, by decide +kernel⟩
      · refine ⟨badL_top 39 rfl rfl, by simp only [wtD, wtL]; omega, by simp only [strD, strL, sf, sz, szd] <;> decide⟩
      · exact ⟨⟨by decide +kernel, by decide +kernel⟩, by decide +kernel, by decide +kernel⟩
      · exact ⟨⟨by decide +kernel, by decide +kernel⟩, by decide +kernel, by decide +kernel⟩
      · exact ⟨⟨by decide +kernel, by decide +kernel⟩, by decide +kernel, by decide +kernel⟩
      · exact ⟨⟨by decide +kernel, by decide +kernel⟩, by decide +kernel, by decide +kernel⟩
      · exact ⟨⟨by decide +kernel, by decide +kernel⟩, by decide +kernel, by decide +kernel⟩
      · exact ⟨⟨by decide +kernel, by decide +kernel⟩, by decide +kernel, by decide +kernel⟩
      · exact ⟨⟨by decide +kernel, by decide +kernel⟩, by decide +kernel, by decide +kernel⟩
      · exact ⟨⟨by decide +kernel, by decide +kernel⟩, by decide +kernel, by decide +kernel⟩
      · exact ⟨⟨by decide +kernel, by decide +kernel⟩, by decide +kernel, by decide +kernel⟩
      · exact ⟨⟨by decide +kernel, by decide +kernel⟩, by decide +kernel, by decide +kernel⟩
      · refine ⟨badL_top 39 rfl rfl, by simp only [wtD, wtL]; omega, by simp only [strD, strL, sf, sz, szd] <;> decide⟩
      · refine ⟨badL_top 39 (by simp [domD, bne, BEq.beq]) (by simp [partD, partK, nameD]), by simp only [wtD, wtL]; omega, by simp only [strD, strL, sf, sz, szd] <;> decide⟩
      · exact ⟨⟨by decide +kernel, by decide +kernel⟩, by decide +kernel, by decide +kernel⟩
      · exact ⟨⟨by decide +kernel, by decide +kernel⟩, by decide +kernel, by decide +kernel⟩
      · refine ⟨badL_down 39 (by simp [domD, bne, BEq.beq]) (by simp [partD, partK]) (by simp [belowD]) (by simp only [List.flatMap_cons, List.flatMap_nil, belowD, if_pos, List.append_nil]; exact badL_top 38 rfl rfl), by simp only [wtD, wtL]; omega, by simp only [strD, strL, sf, sz, szd] <;> decide⟩
      · refine ⟨badL_top 39 rfl rfl, by simp only [wtD, wtL]; omega, by simp only [strD, strL, sf, sz, szd] <;> decide⟩
      · refine ⟨badL_top 39 (by simp [domD, bne, BEq.beq]) (by simp [partD, partK, manyD]), by simp only [wtD, wtL]; omega, by simp only [strD, strL, sf, sz, szd] <;> decide⟩
      · exact ⟨⟨by decide +kernel, by decide +kernel⟩, by decide +kernel, by decide +kernel⟩
      · refine ⟨badL_top 39 (by simp [domD, bne, BEq.beq]) (by simp [partD, partK, manyD]), by simp only [wtD, wtL]; omega, by simp only [strD, strL, sf, sz, szd] <;> decide⟩
      · refine ⟨badL_top 39 (by simp [domD, kx1, bne, BEq.beq]) (by simp [partD, partK, kx1, kx2, kx3, kx4, kx5, kx6, kx7]), by simp only [wtD, wtL]; omega, by simp only [strD, strL, sf, sz, szd] <;> decide⟩
      · refine ⟨badL_down 39 (by simp [domD, bne, BEq.beq]) (by simp [partD, partK, manyD]) (by simp [belowD, itemsD]) (by rw [show List.flatMap belowD [PyData.tuple [PyData.str (Str.ofString "or"), PyData.tuple [f.data, PyData.tuple [PyData.str (Str.ofString "bit"), PyData.int 2]]]] = [f.data, PyData.tuple [PyData.str (Str.ofString "bit"), PyData.int 2]] by simp [belowD, itemsD]]; exact badL_top 38 (by simp only [List.all_cons, df]; simp [domD]) (by simp only [List.all_cons, pf]; simp [partD, partK, bitD])), by simp only [wtD, wtL]; omega, by simp only [strD, strL, sf, sz, szd] <;> decide⟩
      · refine ⟨badL_down 39 (by simp [domD, bne, BEq.beq]) (by simp [partD, partK]) (by simp [belowD]) (by rw [show List.flatMap belowD [PyData.tuple [PyData.str (Str.ofString "not"), PyData.tuple [PyData.str (Str.ofString "not"), PyData.tuple [PyData.str (Str.ofString "name"), PyData.str (z ++ Str.ofString ".")]]]] = [PyData.tuple [PyData.str (Str.ofString "not"), PyData.tuple [PyData.str (Str.ofString "name"), PyData.str (z ++ Str.ofString ".")]]] by simp [belowD]]; exact badL_down 38 (by simp [domD, bne, BEq.beq]) (by simp [partD, partK]) (by simp [belowD]) (by rw [show List.flatMap belowD [PyData.tuple [PyData.str (Str.ofString "not"), PyData.tuple [PyData.str (Str.ofString "name"), PyData.str (z ++ Str.ofString ".")]]] = [PyData.tuple [PyData.str (Str.ofString "name"), PyData.str (z ++ Str.ofString ".")]] by simp [belowD]]; exact badL_top 37 (by simp [domD, bne, BEq.beq]) (by simp [partD, partK, nameD, nzd]))), by simp only [wtD, wtL]; omega, by simp only [strD, strL, sf, sz, szd] <;> decide⟩
      · refine ⟨badL_down 39 (by simp [domD, bne, BEq.beq]) (by simp [partD, partK, manyD]) (by simp [belowD, itemsD]) (by rw [show List.flatMap belowD [PyData.tuple [PyData.str (Str.ofString "and"), PyData.tuple [PyData.tuple [PyData.str (Str.ofString "or"), PyData.tuple [f.data, PyData.tuple [PyData.str (Str.ofString "rise"), PyData.str (Str.ofString "or")]]], f.data]]] = [PyData.tuple [PyData.str (Str.ofString "or"), PyData.tuple [f.data, PyData.tuple [PyData.str (Str.ofString "rise"), PyData.str (Str.ofString "or")]]], f.data] by simp [belowD, itemsD]]; exact badL_down 38 (by simp only [List.all_cons, df]; simp [domD, bne, BEq.beq]) (by simp only [List.all_cons, pf]; simp [partD, partK, manyD]) (by simp [belowD, itemsD]) (by rw [show List.flatMap belowD [PyData.tuple [PyData.str (Str.ofString "or"), PyData.tuple [f.data, PyData.tuple [PyData.str (Str.ofString "rise"), PyData.str (Str.ofString "or")]]], f.data] = [f.data, PyData.tuple [PyData.str (Str.ofString "rise"), PyData.str (Str.ofString "or")]] by simp only [List.flatMap_cons, List.flatMap_nil, bf]; simp [belowD, itemsD]]; exact badL_top 37 (by simp only [List.all_cons, df]; simp [domD, bne, BEq.beq]) (by simp only [List.all_cons, pf]; simp [partD, partK, nameD, nor]))), by simp only [wtD, wtL]; omega, by simp only [strD, strL, sf, sz, szd] <;> decide⟩
end
end K7

set_option Elab.async false
set_option linter.all false
set_option maxRecDepth 100000
set_option maxHeartbeats 4000000
namespace K7
open PySem PySem.Spec PyProof.Rows L2 GX NdefX
/-! ### a formula's data can be compared and shown -/
theorem signs_small : ∀ c ∈ signs.cps.toList, c < 128 := by decide +kernel
theorem name_small {z : Str} (h : nameB z = true) : ∀ c ∈ z.cps.toList, c < 128 := by
  unfold nameB at h
  simp only [Bool.and_eq_true, List.all_eq_true, decide_eq_true_eq] at h
  exact fun c m => signs_small c (h.2.2 c m)
theorem name_strOk {z : Str} (h : nameB z = true) : PyData.strOk z = true := by
  unfold PyData.strOk
  rw [← Array.all_toList, List.all_eq_true]
  exact fun c m => decide_eq_true (by have := name_small h c m; omega)
mutual
theorem lay_data : ∀ f : Fm, f.ok = true → f.data.canLay0 = true
  | .bit b, _ => by simp only [Fm.data, PyData.canLay0, PyData.canLayAll0]; decide +kernel
  | .name x, h => by simp only [Fm.data, PyData.canLay0, PyData.canLayAll0]; rw [name_strOk h]; decide +kernel
  | .edge r x, h => by simp only [Fm.data, PyData.canLay0, PyData.canLayAll0]; rw [name_strOk h]; cases r <;> decide +kernel
  | .not f, h => by simp only [Fm.data, PyData.canLay0, PyData.canLayAll0]; rw [lay_data f h]; decide +kernel
  | .joint w fs, h => by
    simp only [Fm.ok, Bool.and_eq_true, decide_eq_true_eq] at h
    simp only [Fm.data, PyData.canLay0, PyData.canLayAll0]; rw [lay_dataL fs h.2]; cases w <;> decide +kernel
theorem lay_dataL : ∀ r : List Fm, okL r = true → PyData.canLayAll0 (dataL r) = true
  | [], _ => rfl
  | f :: r, h => by
    have h2 : f.ok = true ∧ okL r = true := by simpa [okL] using h
    simp only [dataL, PyData.canLayAll0]; rw [lay_data f h2.1, lay_dataL r h2.2]; rfl
end
mutual
theorem depth_data : ∀ f : Fm, f.data.depth ≤ 2 * f.dep
  | .bit b => by simp [Fm.data, Fm.dep, PyData.depth, PyData.depthAll]
  | .name x => by simp [Fm.data, Fm.dep, PyData.depth, PyData.depthAll]
  | .edge r x => by simp [Fm.data, Fm.dep, PyData.depth, PyData.depthAll]
  | .not f => by have := depth_data f; simp only [Fm.data, Fm.dep, PyData.depth, PyData.depthAll]; omega
  | .joint w fs => by have := depth_dataL fs; simp only [Fm.data, Fm.dep, PyData.depth, PyData.depthAll]; omega
theorem depth_dataL : ∀ r : List Fm, PyData.depthAll (dataL r) ≤ 2 * depL r
  | [] => by simp [dataL, PyData.depthAll]
  | f :: r => by have := depth_data f; have := depth_dataL r; simp only [dataL, depL, PyData.depthAll]; omega
end
mutual
theorem show_data : ∀ f : Fm, f.data.showable = true ∧ f.data.hasDict = false
  | .bit b => by simp only [Fm.data, PyData.showable, PyData.showableAll, PyData.hasDict, PyData.hasDictAll]; cases b <;> decide +kernel
  | .name x => by simp only [Fm.data, PyData.showable, PyData.showableAll, PyData.hasDict, PyData.hasDictAll]; decide +kernel
  | .edge r x => by simp only [Fm.data, PyData.showable, PyData.showableAll, PyData.hasDict, PyData.hasDictAll]; decide +kernel
  | .not f => by
    obtain ⟨h1, h2⟩ := show_data f
    simp only [Fm.data, PyData.showable, PyData.showableAll, PyData.hasDict, PyData.hasDictAll, h1, h2]; decide +kernel
  | .joint w fs => by
    obtain ⟨h1, h2⟩ := show_dataL fs
    simp only [Fm.data, PyData.showable, PyData.showableAll, PyData.hasDict, PyData.hasDictAll, h1, h2]; decide +kernel
theorem show_dataL : ∀ r : List Fm, PyData.showableAll (dataL r) = true ∧ PyData.hasDictAll (dataL r) = false
  | [] => ⟨rfl, rfl⟩
  | f :: r => by
    obtain ⟨h1, h2⟩ := show_data f
    obtain ⟨h3, h4⟩ := show_dataL r
    simp only [dataL, PyData.showableAll, PyData.hasDictAll, h1, h2, h3, h4]; decide +kernel
end
theorem shortS (x : String) (h : ((Str.ofString x).cps.toList.all fun c => decide (c < 16 ^ 8)) = true) : PyData.leavesShort 8 (.str (Str.ofString x)) = true := by
  simp only [PyData.leavesShort]; exact h
theorem short_name {z : Str} (h : nameB z = true) : (z.cps.toList.all fun c => decide (c < 16 ^ 8)) = true := by
  rw [List.all_eq_true]
  exact fun c m => decide_eq_true (by have := name_small h c m; omega)
mutual
theorem short_data : ∀ f : Fm, f.ok = true → f.data.leavesShort 8 = true
  | .bit b, _ => by simp only [Fm.data, PyData.leavesShort, PyData.leavesShortAll]; cases b <;> decide +kernel
  | .name x, h => by simp only [Fm.data, PyData.leavesShort, PyData.leavesShortAll]; rw [short_name h]; decide +kernel
  | .edge r x, h => by simp only [Fm.data, PyData.leavesShort, PyData.leavesShortAll]; rw [short_name h]; cases r <;> decide +kernel
  | .not f, h => by simp only [Fm.data, PyData.leavesShort, PyData.leavesShortAll]; rw [short_data f h]; decide +kernel
  | .joint w fs, h => by
    simp only [Fm.ok, Bool.and_eq_true, decide_eq_true_eq] at h
    simp only [Fm.data, PyData.leavesShort, PyData.leavesShortAll]; rw [short_dataL fs h.2]; cases w <;> decide +kernel
theorem short_dataL : ∀ r : List Fm, okL r = true → PyData.leavesShortAll 8 (dataL r) = true
  | [], _ => rfl
  | f :: r, h => by
    have h2 : f.ok = true ∧ okL r = true := by simpa [okL] using h
    simp only [dataL, PyData.leavesShortAll]; rw [short_data f h2.1, short_dataL r h2.2]; rfl
end
theorem shown_fit {f : Fm} (ok : f.ok = true) (hc : f.cnt ≤ 1000) : f.data.shown.length ≤ sizeLine :=
  PyData.shown_fits_bulk (B := 8) (by decide) (by decide) (short_data f ok) (by have := bulk_data f ok; have : (2 : Nat) ^ 20 = 1048576 := by decide
                                                                                omega)
theorem eqv_data {f : Fm} (ok : f.ok = true) : PyData.eqv f.data f.data = true := SeqAt.eqv_refl _ (lay_data f ok)
/-! a tuple of names -/
def tupD (ys : List Str) : PyData := .tuple (ys.map PyData.str)
theorem tup_lay {ys : List Str} (h : ∀ y ∈ ys, nameB y = true) : (tupD ys).canLay0 = true ∧ (tupD ys).depth ≤ 150 := by
  unfold tupD
  simp only [PyData.canLay0, PyData.depth]
  have : PyData.canLayAll0 (ys.map PyData.str) = true ∧ PyData.depthAll (ys.map PyData.str) = 0 := by
    induction ys with
    | nil => exact ⟨rfl, rfl⟩
    | cons y r ih =>
      obtain ⟨h1, h2⟩ := ih fun z m => h z (List.mem_cons_of_mem _ m)
      simp only [List.map_cons, PyData.canLayAll0, PyData.canLay0, PyData.depthAll, PyData.depth, h1, h2, name_strOk (h y List.mem_cons_self)]; decide +kernel
  rw [this.1, this.2]; exact ⟨rfl, by omega⟩
theorem tup_dh {H : Hp} {a : Addr} {ys : List Str} (h : H a = some (.tup (txs ys))) : Dh H (.ref a) (tupD ys) := by
  refine .tup h ?_
  clear h
  unfold txs
  induction ys with
  | nil => exact .nil
  | cons y r ih => exact .cons (.str y) ih
end K7

set_option Elab.async false
set_option linter.all false
set_option maxRecDepth 100000
set_option maxHeartbeats 4000000
namespace K7
open PySem PySem.Spec PyProof.Rows L2 GX NdefX
/-! ### _law_wide_right -/
/-- for c in a text -/
theorem forSt {z : Str} {g : TG} {tb : TS} {D : Ends} {σ : L2.St} {H : Hp} (Pv : Nat → L2.St → Hp → Prop) (h0 : Pv 0 σ H)
    (turn : ∀ i c σ H, z.cps.toList[i]? = some c → Pv i σ H → g (.str ⟨#[c]⟩) σ H fun σ2 H2 => tb { nx := Pv (i + 1), rt := D.rt, bk := D.nx, ct := Pv (i + 1) } σ2 H2) (done : ∀ σ H, Pv z.cps.toList.length σ H → D.nx σ H) : ForR (Its z) g tb D σ H :=
  forGen (n := z.cps.size) Pv h0 (fun i σ H h p => h) (fun σ H p => Nat.le_refl _) (fun i x σ H H' hi p y => by
    obtain ⟨e0, cc, hcc, rfl⟩ := y
    subst e0
    exact turn i cc σ _ (by rw [Array.getElem?_toList]; exact hcc) p) fun σ H p => done σ H (by rw [Array.length_toList]; exact p)
def wA : Str := "abcdefghij"
def wB : Str := "abcdefghijklmnopqrstuvwxyzabcdefghijklmn"
def rowW (a : Nat) (l : List Nat) : List Str := l.map fun b => T [a, b]
def rowsW (l : List Nat) : List Str := l.flatMap fun a => rowW a wB.cps.toList
def wideN : List Str := rowsW wA.cps.toList
theorem wide_ok : (∀ z ∈ wideN, nameB z = true) ∧ wideN.length = 400 := by decide +kernel
theorem rowsW_len (l : List Nat) : (rowsW l).length = 40 * l.length := by
  induction l with
  | nil => rfl
  | cons a r ih =>
    have e : (rowW a wB.cps.toList).length = 40 := by unfold rowW; rw [List.length_map]; decide +kernel
    show (rowW a wB.cps.toList ++ rowsW r).length = _
    rw [List.length_append, ih, e, List.length_cons]; omega
theorem wAl : wA.cps.toList.length = 10 := by decide +kernel
theorem wBl : wB.cps.toList.length = 40 := by decide +kernel
def fmN (M : List Str) : List Fm := M.map Fm.name
theorem okL_fmN {M : List Str} (h : ∀ z ∈ M, nameB z = true) : okL (fmN M) = true := okL_all.mpr fun f m => by
  obtain ⟨z, mz, rfl⟩ := List.mem_map.mp m
  exact h z mz
theorem cnt_fmN (M : List Str) : cntL (fmN M) = M.length := by
  induction M with
  | nil => rfl
  | cons z r ih => show (Fm.name z).cnt + cntL (fmN r) = _; rw [ih, List.length_cons]; simp only [Fm.cnt]; omega
theorem dep_fmN {M : List Str} (ne : M ≠ []) : depL (fmN M) = 1 := by
  have h1 : depL (fmN M) ≤ 1 := depL_le.mpr fun f m => by
    obtain ⟨z, mz, rfl⟩ := List.mem_map.mp m
    exact Nat.le_refl _
  cases M with
  | nil => exact absurd rfl ne
  | cons z r =>
    have : depL (fmN (z :: r)) = max 1 (depL (fmN r)) := rfl
    omega
theorem nms_fmN (w : Bool) (M : List Str) : (Fm.joint w (fmN M)).nms = M := by
  have e : lvsL (fmN M) = fmN M := by
    induction M with
    | nil => rfl
    | cons z r ih => show (Fm.name z).lvs ++ lvsL (fmN r) = _; rw [ih]; rfl
  show (lvsL (fmN M)).filterMap nmOf = M
  rw [e]
  clear e
  induction M with
  | nil => rfl
  | cons z r ih => show ((Fm.name z) :: fmN r).filterMap nmOf = _; rw [List.filterMap_cons]; show z :: _ = _; rw [ih]
/-- spaces inside the brackets -/
theorem wide_words (w : Bool) (fs : List Fm) : wd [] (40 :: (spn 1 ++ (joinT w fs ++ (spn 1 ++ [41])))) = wd [] (Fm.joint w fs).txt := by
  have h := wd_br (joinT w fs) 0 0
  have h1 := wd_br (joinT w fs) 1 1
  simp only [Fm.txt]
  rw [h1, ← h]; rfl
theorem from_read {C : Addr} {H : Hp} {Q : VK} {E : XK} {l : List Nat} {F : Fm} (hl : l.length ≤ 100000) (hp : parse (wd [] l) = some (F, F.dep)) (hd : F.dep ≤ 40) (q : ∀ u H1, Same H H1 → Dh H1 u F.data → Q u H1) : spFrom C [.str (T l)] H Q E := by
  refine ⟨_, .str (T l), rfl, .str _, fun e => by (cases e), fun x ex => ?_⟩
  cases ex
  refine ⟨by rw [T_len]; exact hl, fun e => by rw [T_list, hp] at e; (cases e), fun f n e => ?_⟩
  rw [T_list, hp] at e
  cases e
  exact ⟨fun h => absurd h (by omega), fun _ => q⟩
theorem ne_same {K : PySem.W.Frag} {H : Hp} {x y : V} {d : PyData} {Q : VK} (h1 : Dh H x d) (h2 : Dh H y d) (hl : d.canLay0 = true) (hd : d.depth ≤ 150) (q : Q (.bl false) H) : RG.rNeDD K x y H Q := by
  refine ⟨d, d, h1.dp, h2.dp, ⟨hl, hl, hd⟩, ?_⟩
  rw [SeqAt.eqv_refl d hl]; exact q
theorem eq_same {K : PySem.W.Frag} {H : Hp} {x y : V} {d : PyData} {Q : VK} (h1 : Dh H x d) (h2 : Dh H y d) (hl : d.canLay0 = true) (hd : d.depth ≤ 150) (q : Q (.bl true) H) : RG.rEqDD K x y H Q := by
  refine ⟨d, d, h1.dp, h2.dp, ⟨hl, hl, hd⟩, ?_⟩
  rw [SeqAt.eqv_refl d hl]; exact q
theorem told_names_ok {f : Fm} (h : f.ok = true) : (∀ y ∈ f.nms, nameB y = true) ∧ ∀ y ∈ f.eds, nameB y = true := by
  refine ⟨fun y m => ?_, fun y m => ?_⟩
  · obtain ⟨g, mg, e⟩ := List.mem_filterMap.mp m
    have ho := lvs_ok f h g mg
    cases g <;> simp only [nmOf] at e <;> first | (cases e; exact ho) | cases e
  · obtain ⟨g, mg, e⟩ := List.mem_filterMap.mp m
    have ho := lvs_ok f h g mg
    cases g <;> simp only [edOf] at e <;> first | (cases e; exact ho) | cases e
def spWide : Sp := fun vs H Q _ => ∃ n : Nat, vs = [.int n] ∧ n < 3 ∧ ∀ H1, Same H H1 → Q (.bl true) H1
section
variable {P : Program} {w : World} {K : PySem.W.Frag} {mg : Str → Option Value} {base : Heap}
theorem ok_wide {k : Nat} (D : Pr P K mg) : FnOk P w K mg base (CX P w) (k + 47) D._law_wide_right.f D._law_wide_right.fd ["word"] spWide := by
  have G_formula_text : FnOk P w K mg base (CX P w) (k + 46) D.formula_text.f D.formula_text.fd ["formula"] (spTextC D.BadFormula.C) := ok_text D
  have G_formula_from : FnOk P w K mg base (CX P w) (k + 6) D.formula_from.f D.formula_from.fd ["text"] (spFrom D.BadText.C) := ok_from D
  have G_names_of : FnOk P w K mg base (CX P w) (k + 6) D.names_of.f D.names_of.fd ["formula"] (spToldC D.BadFormula.C Fm.nms) := ok_names D
  have G__law_each_once : FnOk P w K mg base CX0 (k + 1) D._law_each_once.f D._law_each_once.fd ["names"] spOnce := ok_once D
  refine D._law_wide_right.F.okX sc__law_wide_right (fun vs H Q E h => ?_) (fun cdv A outer s H vs Q E hr h => ?_)
  · obtain ⟨n, rfl, _⟩ := h
    rfl
  · obtain ⟨n, rfl, hn, q⟩ := h
    refine ⟨_, (pss_cons (ps_set (i := 1) sc__law_wide_right.nd rfl (.inl rfl) (pe_lst pa_nil))
      (pss_cons (ps_for (by passes_own) rfl (pi_str pe_str) (pg_name (i := 2) sc__law_wide_right.nd rfl (.inl rfl)) (pss_one (ps_for (by passes_own) rfl (pi_str pe_str) (pg_name (i := 3) sc__law_wide_right.nd rfl (.inl rfl)) (pss_one (ps_expr (pe_bm PySem.F.plainAttrs_list PySem.F.slot_list_append PySem.F.type_list_append mt_append (pv 1) (pa_cons (pe_op op_add_str (pv 2) (pv 3)) pa_nil)))))))
      (pss_cons (ps_set (i := 1) sc__law_wide_right.nd rfl (.inl rfl) (pe_slice sl_list (pv 1) po_none (po_some (pe_op op_sub pe_int (pv 0)))))
      (pss_cons (ps_set (i := 4) sc__law_wide_right.nd rfl (.inl rfl) (pe_ix (r := rIxL K) ix_list (pe_lst (pa_cons pe_str (pa_cons pe_str pa_nil))) (pe_op (r := rModN) op_ModN (pe_callTy call_int1 (by rfl) D.B.int (by decide +kernel) (pa_cons (pv 0) pa_nil)) pe_int) (fun _ _ => rfl)))
      (pss_cons (ps_set (i := 5) sc__law_wide_right.nd rfl (.inl rfl) (pe_tup (pa_cons (pv 4) (pa_cons (pe_callTy call_tuple_of (by rfl) D.B.tuple (by decide +kernel) (pa_cons (pe_lc (own := [("name", 6)]) (g := (gName 6)) (tt := tYes) rfl sc__law_wide_right.nd (pi_list (pv 1)) (blkOk_by (own := [("name", 6)]) (N := n__law_wide_right) (sc := defScope s__law_wide_right) (by decide +kernel)) (fun _ _ _ _ _ => (pg_name (i := 6) sc__law_wide_right.nd rfl (.inl rfl))) (fun _ _ _ _ _ => pts_nil) (fun _ _ _ _ _ => (pe_tup (pa_cons pe_str (pa_cons (pv 6) pa_nil))))) pa_nil)) pa_nil))))
      (pss_cons (ps_set (i := 7) sc__law_wide_right.nd rfl (.inl rfl) (pe_call G_formula_text (hr.mono (by omega)) (by rfl) D.formula_text.g D.formula_text.F.kp D.formula_text.b .nil (passes_call (takes_of rfl rfl rfl rfl) (fun _ _ _ _ h => h)) (pa_cons (pv 5) pa_nil)))
      (pss_cons (ps_set (i := 8) sc__law_wide_right.nd rfl (.inl rfl) (pe_ix (r := rIxL K) ix_list (pv 1) pe_int (fun _ _ => rfl)))
      (pss_cons (ps_for (by passes_own) rfl (pi_list (pe_slice sl_list (pv 1) (po_some pe_int) po_none)) (pg_name (i := 6) sc__law_wide_right.nd rfl (.inl rfl)) (pss_one (ps_set (i := 8) sc__law_wide_right.nd rfl (.inl rfl) (pe_op op_add_str (pe_op op_add_str (pe_op op_add_str (pe_op op_add_str (pv 8) pe_str) (pv 4)) pe_str) (pv 6)))))
      (pss_cons (ps_if (PW.pt (pw_or (pt_cmpR op_ne (pv 7) (pe_op op_add_str (pe_op op_add_str pe_str (pv 8)) pe_str) (nomark _)) (pw_or (pt_cmpR (RG.op_neDD hr) (pe_call G_formula_from (hr.mono (by omega)) (by rfl) D.formula_from.g D.formula_from.F.kp D.formula_from.b .nil (passes_call (takes_of rfl rfl rfl rfl) (fun _ _ _ _ h => h)) (pa_cons (pv 7) pa_nil)) (pv 5) (nomark _)) (pw_or1 (pt_cmpR (RG.op_neDD hr) (pe_call G_formula_from (hr.mono (by omega)) (by rfl) D.formula_from.g D.formula_from.F.kp D.formula_from.b .nil (passes_call (takes_of rfl rfl rfl rfl) (fun _ _ _ _ h => h)) (pa_cons (pe_op op_add_str (pe_op op_add_str pe_str (pv 8)) pe_str) pa_nil)) (pv 5) (nomark _)))))) (pss_one (ps_ret pe_bl)) pss_nil)
      (pss_one (ps_ret (pe_cmpR (RG.op_eqDD hr) (pe_call G_names_of (hr.mono (by omega)) (by rfl) D.names_of.g D.names_of.F.kp D.names_of.b .nil (passes_call (takes_of rfl rfl rfl rfl) (fun _ _ _ _ h => h)) (pa_cons (pv 5) pa_nil)) (pe_call G__law_each_once (hr.mono (by omega)) (by rfl) D._law_each_once.g D._law_each_once.F.kp D._law_each_once.b .nil pass0 (pa_cons (pv 1) pa_nil)) (nomark _))))))))))))), ?_⟩
    refine ⟨by show 0 ≤ sizeLine; omega, fun N nN => ⟨_, rfl, ?_⟩⟩
    refine forSt (z := wA) (fun i σ H2 => (∃ c2 c3, σ = [some (.int n), some (.ref N), c2, c3, none, none, none, none, none]) ∧ Same H H2 ∧ H2 N = some (.lst (txs (rowsW (wA.cps.toList.take i))))) ⟨⟨_, _, rfl⟩, same_upd nN, by rw [upd_same]; rfl⟩ ?_ ?_
    · rintro i a σ H2 ha ⟨⟨c2, c3, rfl⟩, s2, e2⟩
      have hi : i < 10 := by have := (List.getElem?_eq_some_iff.mp ha).1; rw [wAl] at this; exact this
      refine ⟨_, rfl, ?_⟩
      refine forSt (z := wB) (fun j σ H3 => (∃ c3, σ = [some (.int n), some (.ref N), some (.str ⟨#[a]⟩), c3, none, none, none, none, none]) ∧ Same H H3 ∧ H3 N = some (.lst (txs (rowsW (wA.cps.toList.take i) ++ rowW a (wB.cps.toList.take j))))) ⟨⟨_, rfl⟩, s2, by rw [e2]; simp [rowW]⟩ ?_ ?_
      · rintro j b σ H3 hb ⟨⟨c3, rfl⟩, s3, e3⟩
        have hj : j < 40 := by have := (List.getElem?_eq_some_iff.mp hb).1; rw [wBl] at this; exact this
        refine ⟨.ref N, rfl, .inl ⟨rfl, _, sqL e3⟩, _, rfl, _, rfl, _, _, rfl, rfl, by show 1 + 1 ≤ sizeLine; rw [sizeLine_eq]; decide, N, _, _, rfl, rfl, e3, ?_, ⟨_, rfl⟩, ?_, ?_⟩
        · unfold txs rowW
          rw [List.length_map, List.length_append, rowsW_len, List.length_map, List.length_take, List.length_take, sizeLine_eq]; omega
        · exact fun b o e => by rw [upd_ne (ne_of_none e nN)]; exact s3 _ _ e
        · rw [upd_same, take_snoc hb]
          unfold rowW txs
          simp only [List.map_append, List.append_assoc]
          rfl
      · rintro σ H3 ⟨⟨c3, rfl⟩, s3, e3⟩
        rw [List.take_length] at e3
        refine ⟨⟨_, _, rfl⟩, s3, ?_⟩
        rw [e3, take_snoc ha]
        unfold rowsW
        rw [List.flatMap_append]; simp
    · rintro σ H2 ⟨⟨c2, c3, rfl⟩, s2, e2⟩
      rw [List.take_length] at e2
      have e2 : H2 N = some (.lst (txs wideN)) := e2
      delta tNoPart
      refine ⟨.ref N, rfl, .int n, rfl, 399, n, rfl, rfl, 399 - (n : Int), rfl, N, _, rfl, sqL e2, fun S nS => ?_⟩
      rw [show (399 : Int) - n = ((399 - n : Nat) : Int) by omega, cut_to]
      have sS := same_upd (o := .lst ((txs wideN).take (399 - n))) nS
      have eM : (txs wideN).take (399 - n) = txs (wideN.take (399 - n)) := by unfold txs; rw [List.map_take]
      rw [eM] at sS ⊢
      have okM : ∀ z ∈ wideN.take (399 - n), nameB z = true := fun z m => wide_ok.1 z (List.mem_of_mem_take m)
      have lM : (wideN.take (399 - n)).length = 399 - n := by rw [List.length_take, wide_ok.2]; omega
      generalize wideN.take (399 - n) = M at sS eM okM lM
      have e3 : upd H2 S (.lst (txs M)) S = some (.lst (txs M)) := upd_same
      have s3 := s2.trans sS
      generalize upd H2 S (.lst (txs M)) = H3 at sS e3 s3
      clear e2 s2 sS nS
      refine ⟨by show 2 ≤ sizeLine; rw [sizeLine_eq]; decide, fun C nC => ⟨.int n, rfl, .inl ⟨n, rfl, n, 2, rfl, rfl, by decide, ?_⟩⟩⟩
      obtain ⟨jw, em⟩ : ∃ jw : Bool, ([V.str (Str.ofString "and"), V.str (Str.ofString "or")])[n % 2]? = some (.str (jK jw)) := by
        have : n % 2 = 0 ∨ n % 2 = 1 := by omega
        rcases this with e | e
        · exact ⟨false, by rw [e]; rfl⟩
        · exact ⟨true, by rw [e]; rfl⟩
      refine ⟨C, _, _, .str (jK jw), rfl, rfl, sqL upd_same, atI_nat em, ?_⟩
      have e4 := same_upd (o := .lst [.str (Str.ofString "and"), .str (Str.ofString "or")]) nC _ _ e3
      have s4 := s3.trans (same_upd (o := .lst [.str (Str.ofString "and"), .str (Str.ofString "or")]) nC)
      generalize upd H3 C _ = H4 at e4 s4
      have lxM : (txs M).length = M.length := List.length_map _
      refine ⟨_, rfl, .ref S, rfl, S, rfl, ⟨_, sqL e4⟩, lcLst (fun i H x => ∃ z, M[i]? = some z ∧ Dh H x (Fm.name z).data) (fun i H H' x s ⟨z, e, h⟩ => ⟨z, e, h.same s⟩) (fun D i H x us ys e _ ⟨z, e2, h⟩ => ⟨z, e2, h.tups (fun b zs z => by rw [upd_ne (fun w => by rw [w, e] at z; cases z)]; exact z) _ _ (noL_data _)⟩) e4 (by omega) (fun Dl i y H5 Qk Qn hy s5 nDl eDl hk => ⟨rfl, iteT (B := Qn H5) ?_⟩) (fun Dl H5 ts nDl s5 eDl pu => ?_)⟩
      · unfold txs at hy
        rw [List.getElem?_map] at hy
        obtain ⟨z, hz, rfl⟩ := Option.map_eq_some_iff.mp hy
        exact ⟨_, rfl, by show 2 ≤ sizeLine; rw [sizeLine_eq]; decide, fun tp np => hk _ _ ⟨z, hz, .tup upd_same (.cons (.str _) (.cons (.str z) .nil))⟩ (same_upd np)⟩
      have lfn : (fmN M).length = M.length := List.length_map _
      have dts : ∀ H', Same H5 H' → DhAll H' ts (dataL (fmN M)) := fun H' s' => dhAll_get ts (fmN M) (by rw [pu.length, List.length_range, lxM, lfn]) fun i x f e1 e2 => by
        obtain ⟨j, ej, z, ez, h⟩ := paired_get pu e1
        obtain rfl : i = j := by
          obtain ⟨hj, ej⟩ := List.getElem?_eq_some_iff.mp ej
          rw [List.getElem_range] at ej
          exact ej
        unfold fmN at e2
        rw [List.getElem?_map, ez] at e2
        cases e2
        exact h.same s'
      refine ⟨_, ts, rfl, .inl ⟨sqL eDl, fun t1 nt1 => ⟨by show 2 ≤ sizeLine; rw [sizeLine_eq]; decide, fun t2 nt2 => ?_⟩⟩⟩
      have qt : t2 ≠ t1 := fun e => by subst e; rw [upd_same] at nt2; cases nt2
      have nt3 := nt2
      rw [upd_ne qt] at nt3
      have sm : Same H5 (upd (upd H5 t1 (.tup ts)) t2 (.tup [.str (jK jw), .ref t1])) := fun b o e => by rw [upd_ne (ne_of_none e nt3), upd_ne (ne_of_none e nt1)]; exact e
      have dF : Dh (upd (upd H5 t1 (.tup ts)) t2 (.tup [.str (jK jw), .ref t1])) (.ref t2) (Fm.joint jw (fmN M)).data := .tup upd_same (.cons (.str _) (.cons (.tup (by rw [upd_ne qt.symm, upd_same]) (dts _ sm)) .nil))
      have sA := s4.trans (s5.trans sm)
      have eS := (s5.trans sm) _ _ e4
      generalize upd (upd H5 t1 (.tup ts)) t2 (.tup [.str (jK jw), .ref t1]) = H6 at sm dF sA eS
      clear pu dts s5 eDl nDl s4 e4 s3 e3
      have okF : (Fm.joint jw (fmN M)).ok = true := by
        simp only [Fm.ok, Bool.and_eq_true, decide_eq_true_eq]
        exact ⟨by rw [lfn]; omega, okL_fmN okM⟩
      have cF : (Fm.joint jw (fmN M)).cnt = M.length + 1 := by simp only [Fm.cnt]; rw [cnt_fmN]
      have dpF : (Fm.joint jw (fmN M)).dep = 2 := by simp only [Fm.dep]; rw [dep_fmN (by rintro rfl; simp at lM; omega)]
      have tF := txt_len _ okF
      have aF := arg_data dF okF (by omega)
      have fF := form_data _ okF
      rw [decide_eq_true (by omega)] at fF
      refine ⟨.ref t2, rfl, .ref t2, _, rfl, aF, fun e => by rw [fF] at e; (cases e), fun _ => ⟨_, rfl, by omega, by omega, by omega, fun H7 s7 => ?_⟩⟩
      obtain ⟨z0, M', rfl⟩ : ∃ z0 M', M = z0 :: M' := by
        cases M with
        | nil => simp at lM; omega
        | cons z0 M' => exact ⟨z0, M', rfl⟩
      refine ⟨.ref S, rfl, S, _, _, .str z0, rfl, rfl, sqL (s7 _ _ eS), atI_nat (j := 0) rfl, ?_⟩
      refine ⟨.ref S, rfl, 1, rfl, S, _, rfl, sqL (s7 _ _ eS), fun R nR => ⟨R, rfl, ⟨_, sqL upd_same⟩, ?_⟩⟩
      have e1R : cutV (txs (z0 :: M')) (some ((1 : Nat) : Int)) none = txs M' := by rw [cut_from]; rfl
      have e1R : cutV (txs (z0 :: M')) (some 1) none = txs M' := e1R
      rw [e1R]
      have s8 := s7.trans (same_upd (o := .lst (txs M')) nR)
      have eR : upd H7 R (.lst (txs M')) R = some (.lst (txs M')) := upd_same
      have eS8 := s8 _ _ eS
      generalize upd H7 R (.lst (txs M')) = H8 at s8 eR eS8
      have ez0 : V.str z0 = .str (T (joinT jw (fmN (List.take (0 + 1) (z0 :: M'))))) := by
        show _ = V.str (T (z0.cps.toList ++ []))
        rw [List.append_nil, T_of]
      rw [ez0]
      have lj : ∀ i, (joinT jw (fmN (List.take i (z0 :: M')))).length ≤ 20000 := fun i => by
        have h1 := joinT_len jw (fmN (List.take i (z0 :: M'))) (okL_fmN fun z m => okM z (List.mem_of_mem_take m))
        rw [cnt_fmN, List.length_take] at h1
        have : min i (z0 :: M').length ≤ 399 := by omega
        omega
      refine forLs (fun i σ H9 => ∃ c6, σ = [some (.int n), some (.ref S), c2, c3, some (.str (jK jw)), some (.ref t2), c6, some (.str (T (Fm.joint jw (fmN (z0 :: M'))).txt)), some (.str (T (joinT jw (fmN (List.take (i + 1) (z0 :: M'))))))] ∧ H9 = H8) eR ⟨_, rfl, rfl⟩ ?_ ?_ ?_
      · rintro i σ H9 ⟨c6, rfl, rfl⟩
        exact eR
      · rintro i x σ H9 hx ⟨c6, rfl, rfl⟩
        unfold txs at hx
        rw [List.getElem?_map] at hx
        obtain ⟨z, hz, rfl⟩ := Option.map_eq_some_iff.mp hx
        have l1 := lj (i + 1)
        have l2 : z.length ≤ 40 := (nameS_of (okM z (List.mem_cons_of_mem _ (List.mem_of_getElem? hz)))).2
        have l3 := jK_len jw
        refine ⟨_, rfl, _, _, rfl, rfl, by rw [T_len, len_sp, sizeLine_eq]; omega, _, rfl, _, _, rfl, rfl, by rw [lenApp, T_len, len_sp, sizeLine_eq]; omega, _, _, rfl, rfl, by rw [lenApp, lenApp, T_len, len_sp, sizeLine_eq]; omega, _, rfl, _, _, rfl, rfl, by rw [lenApp, lenApp, lenApp, T_len, len_sp, sizeLine_eq]; omega, ?_⟩
        refine ⟨some (.str z), ?_, rfl⟩
        have : T (joinT jw (fmN (List.take (i + 1) (z0 :: M')))) ++ Str.ofString " " ++ jK jw ++ Str.ofString " " ++ z = T (joinT jw (fmN (List.take (i + 1 + 1) (z0 :: M')))) := by
          rw [take_snoc (show (z0 :: M')[i + 1]? = some z from hz)]
          unfold fmN
          rw [List.map_append, List.map_singleton, joinT_snoc jw _ _ (by simp), str_spT, jK_T]
          conv => lhs; rw [← T_of z]
          simp [T_app, Fm.txt]
        rw [this]
        rfl
      · rintro σ H9 ⟨c6, rfl, rfl⟩
        have eT : List.take ((txs M').length + 1) (z0 :: M') = z0 :: M' := by unfold txs; rw [List.length_map]; exact List.take_of_length_le (Nat.le_refl _)
        rw [eT]
        have lj0 := lj (M'.length + 1)
        rw [show List.take (M'.length + 1) (z0 :: M') = z0 :: M' from List.take_of_length_le (Nat.le_refl _)] at lj0
        refine ⟨_, rfl, _, rfl, _, _, rfl, rfl, by rw [len_lb, T_len, sizeLine_eq]; omega, _, _, rfl, rfl, by rw [lenApp, len_lb, len_rb, T_len, sizeLine_eq]; omega, ?_⟩
        rw [show Str.ofString "(" ++ T (joinT jw (fmN (z0 :: M'))) ++ Str.ofString ")" = T (Fm.joint jw (fmN (z0 :: M'))).txt by rw [str_lbT, str_rbT]; simp [T_app, Fm.txt]]
        refine ⟨rfl, _, rfl, iteFq (by rw [decide_eq_true rfl]; rfl) ?_⟩
        have sH := sA.trans s8
        have dF8 := dF.same s8
        have pF := parse_rd (txt_rd _ okF)
        have lF := lay_data _ okF
        have dpt := depth_data (Fm.joint jw (fmN (z0 :: M')))
        refine ⟨_, rfl, from_read (by omega) pF (by omega) fun u H9 s9 hu => ⟨_, rfl, ne_same hu (dF8.same s9) lF (by omega) ⟨_, rfl, iteF ?_⟩⟩⟩
        refine ⟨_, rfl, _, _, rfl, rfl, by rw [T_len, show (Str.ofString "( ").length = 2 by decide, sizeLine_eq]; omega, _, _, rfl, rfl, by rw [lenApp, T_len, show (Str.ofString "( ").length = 2 by decide, show (Str.ofString " )").length = 2 by decide, sizeLine_eq]; omega, ?_⟩
        have eL : Str.ofString "( " ++ T (joinT jw (fmN (z0 :: M'))) ++ Str.ofString " )" = T (40 :: (spn 1 ++ (joinT jw (fmN (z0 :: M')) ++ (spn 1 ++ [41])))) := by
          rw [show Str.ofString "( " = T [40, 32] by decide +kernel, show Str.ofString " )" = T [32, 41] by decide +kernel]
          simp [T_app, spn, List.replicate]
        rw [eL]
        refine from_read (by simp only [List.length_cons, List.length_append, spn, List.length_replicate, List.length_nil]; omega) (by rw [wide_words]; exact pF) (by omega) fun u2 H10 s10 hu2 => ⟨_, rfl, ne_same hu2 (dF8.same (s9.trans s10)) lF (by omega) ⟨_, rfl, iteF ?_⟩⟩
        refine ⟨.ref t2, rfl, .ref t2, _, rfl, aF.same (s8.trans (s9.trans s10)), fun e => by rw [fF] at e; (cases e), fun _ => ⟨_, rfl, by omega, fun ys a11 H11 td s11 e11 => ?_⟩⟩
        have eS11 := s11 _ _ (s10 _ _ (s9 _ _ eS8))
        refine ⟨.ref S, rfl, S, z0 :: M', rfl, eS11, by omega, fun ys2 a12 H12 td2 s12 e12 => ?_⟩
        rw [nms_fmN] at td
        have eys := td.unique td2
        subst eys
        have hy := tup_lay (ys := ys) fun y m => okM y ((td.2.2 y).mp m)
        exact eq_same (tup_dh (s12 _ _ e11)) (tup_dh e12) hy.1 hy.2 (q _ (sH.trans (s9.trans (s10.trans (s11.trans s12)))))
end
end K7

set_option Elab.async false
set_option linter.all false
set_option maxRecDepth 100000
set_option maxHeartbeats 4000000
namespace K7
open PySem PySem.Spec PyProof.Rows L2 GX NdefX
/-! ### _law_good -/
theorem dh_ref {H : Hp} {u : V} {f : Fm} (h : Dh H u f.data) : ∃ a, u = .ref a := by
  cases f <;> (simp only [Fm.data] at h; cases h; exact ⟨_, rfl⟩)
theorem wd_spaces (l : List Nat) : wd [] (32 :: (32 :: (l ++ [32]))) = wd [] l := by
  rw [wd_sp1, wd_sp1, wd_app (beg1 rfl), wd_sp1]
  simp [wd, emit]
theorem text_read {C : Addr} {H : Hp} {Q : VK} {E : XK} {v : V} {f : Fm} (h : Dh H v f.data) (ok : f.ok = true) (hc : f.cnt ≤ 200) (hd : f.dep ≤ 40) (q : ∀ H1, Same H H1 → Q (.str (T f.txt)) H1) : spTextC C [v] H Q E := by
  have fF := form_data f ok
  rw [decide_eq_true hd] at fF
  have tl := txt_len f ok
  exact ⟨v, _, rfl, arg_data h ok (by omega), fun e => by rw [fF] at e; (cases e), fun _ => ⟨f, rfl, hd, by omega, by omega, q⟩⟩
theorem told_read {C : Addr} {H : Hp} {Q : VK} {E : XK} {v : V} {f : Fm} {g : Fm → List Str} (h : Dh H v f.data) (ok : f.ok = true) (hc : f.cnt ≤ 200) (hd : f.dep ≤ 40) (q : ∀ ys a H1, Told ys (g f) → Same H H1 → H1 a = some (.tup (ys.map V.str)) → Q (.ref a) H1) : spToldC C g [v] H Q E := by
  have fF := form_data f ok
  rw [decide_eq_true hd] at fF
  exact ⟨v, _, rfl, arg_data h ok (by omega), fun e => by rw [fF] at e; (cases e), fun _ => ⟨f, rfl, by omega, q⟩⟩
def spGood : Sp := fun vs H Q _ => ∃ (p : Addr) (f : Fm) (lo : List Nat) (Z : Addr → Prop), vs = [.ref p] ∧ PartX H Z p f lo ∧ f.cnt ≤ 200 ∧ f.dep ≤ 40 ∧ ∀ H1, Same H H1 → Q (.bl true) H1
section
variable {P : Program} {w : World} {K : PySem.W.Frag} {mg : Str → Option Value} {base : Heap}
theorem ok_good {k : Nat} (D : Pr P K mg) : RG.FnG P w K mg base (CX P w) (k + 47) D._law_good.f D._law_good.fd ["part"] spGood := by
  have G_check_formula : FnOk P w K mg base (CX P w) (k + 5) D.check_formula.f D.check_formula.fd ["formula"] (spCheck D.BadFormula.C) := ok_check D
  have G_formula_text : FnOk P w K mg base (CX P w) (k + 46) D.formula_text.f D.formula_text.fd ["formula"] (spTextC D.BadFormula.C) := ok_text D
  have G_formula_from : FnOk P w K mg base (CX P w) (k + 6) D.formula_from.f D.formula_from.fd ["text"] (spFrom D.BadText.C) := ok_from D
  have G_is_plain : FnOk P w K mg base (CX P w) (k + 6) D.is_plain.f D.is_plain.fd ["formula"] (spPlain D.BadFormula.C) := ok_plain D
  have G_names_of : FnOk P w K mg base (CX P w) (k + 6) D.names_of.f D.names_of.fd ["formula"] (spToldC D.BadFormula.C Fm.nms) := ok_names D
  have G_edges_of : FnOk P w K mg base (CX P w) (k + 6) D.edges_of.f D.edges_of.fd ["formula"] (spToldC D.BadFormula.C Fm.eds) := ok_edges D
  have G__law_each_once : FnOk P w K mg base CX0 (k + 1) D._law_each_once.f D._law_each_once.fd ["names"] spOnce := ok_once D
  refine RG.fnG_of D._law_good.F sc__law_good (fun vs H Q E h => ?_) (fun cdv A outer s H vs Q E guard hr h => ?_)
  · obtain ⟨p, f, lo, Z, rfl, _⟩ := h
    rfl
  · obtain ⟨p, f, lo, Z, rfl, ⟨v, nl, el, hp⟩, hc, hdp, q⟩ := h
    have aF := arg_data hp.dh hp.ok (by omega)
    have fF := form_data f hp.ok
    rw [decide_eq_true hdp] at fF
    have tl := txt_len f hp.ok
    have ll := hp.len
    have pF := parse_rd (txt_rd f hp.ok)
    have pL := parse_rd hp.lok.2
    have lF := lay_data f hp.ok
    have dpt := depth_data f
    obtain ⟨sh1, sh2⟩ := show_data f
    have sz := shown_fit hp.ok (by omega)
    refine ⟨_, (pss_cons (ps_if (pt_cmpR op_notN (pe_call G_check_formula (hr.mono (by omega)) (by rfl) D.check_formula.g D.check_formula.F.kp D.check_formula.b .nil (passes_call (takes_of rfl rfl rfl rfl) (fun _ _ _ _ h => h)) (pa_cons (pe_ix (r := rIxL K) ix_list (pv 0) pe_int (fun _ _ => rfl)) pa_nil)) pe_non (nomark _)) (pss_one (ps_ret pe_bl)) pss_nil)
      (pss_cons (ps_set (i := 1) sc__law_good.nd rfl (.inl rfl) (pe_call G_formula_text (hr.mono (by omega)) (by rfl) D.formula_text.g D.formula_text.F.kp D.formula_text.b .nil (passes_call (takes_of rfl rfl rfl rfl) (fun _ _ _ _ h => h)) (pa_cons (pe_ix (r := rIxL K) ix_list (pv 0) pe_int (fun _ _ => rfl)) pa_nil)))
      (pss_cons (ps_if (PW.pt (pw_or (pt_not (pt_val (pe_callB call_isi (by rfl) D.B.isinstance (by decide +kernel) (pa_cons (pv 1) (pa_cons (pe_bltn (v := .ty "str") (u := .type "str") (by rfl) D.B.str (by decide +kernel) rfl) pa_nil))))) (pw_or1 (pt_cmpR op_ne (pv 1) (pe_ix (r := rIxL K) ix_list (pv 0) pe_int (fun _ _ => rfl)) (nomark _))))) (pss_one (ps_ret pe_bl)) pss_nil)
      (pss_cons (ps_for (by passes_own) rfl (pi_list (pe_lst (pa_cons (pe_ix (r := rIxL K) ix_list (pv 0) pe_int (fun _ _ => rfl)) (pa_cons (pe_ix (r := rIxL K) ix_list (pv 0) pe_int (fun _ _ => rfl)) (pa_cons (pe_op op_add_str (pe_op op_add_str pe_str (pe_ix (r := rIxL K) ix_list (pv 0) pe_int (fun _ _ => rfl))) pe_str) (pa_cons (pe_op op_add_str (pe_op op_add_str pe_str (pe_ix (r := rIxL K) ix_list (pv 0) pe_int (fun _ _ => rfl))) pe_str) pa_nil)))))) (pg_name (i := 2) sc__law_good.nd rfl (.inl rfl)) (pss_cons (ps_set (i := 3) sc__law_good.nd rfl (.inl rfl) (pe_call G_formula_from (hr.mono (by omega)) (by rfl) D.formula_from.g D.formula_from.F.kp D.formula_from.b .nil (passes_call (takes_of rfl rfl rfl rfl) (fun _ _ _ _ h => h)) (pa_cons (pv 2) pa_nil))) (pss_one (ps_if (PW.pt (pw_or (pt_cmpR (RG.op_neDD hr) (pv 3) (pe_ix (r := rIxL K) ix_list (pv 0) pe_int (fun _ _ => rfl)) (nomark _)) (pw_or (pt_cmpR op_ne (pe_callB (RG.cr_repr guard hr) (by rfl) D.B.repr (by decide +kernel) (pa_cons (pv 3) pa_nil)) (pe_callB (RG.cr_repr guard hr) (by rfl) D.B.repr (by decide +kernel) (pa_cons (pe_ix (r := rIxL K) ix_list (pv 0) pe_int (fun _ _ => rfl)) pa_nil)) (nomark _)) (pw_or1 (pt_cmpR op_ne (pe_call G_formula_text (hr.mono (by omega)) (by rfl) D.formula_text.g D.formula_text.F.kp D.formula_text.b .nil (passes_call (takes_of rfl rfl rfl rfl) (fun _ _ _ _ h => h)) (pa_cons (pv 3) pa_nil)) (pe_ix (r := rIxL K) ix_list (pv 0) pe_int (fun _ _ => rfl)) (nomark _)))))) (pss_one (ps_ret pe_bl)) pss_nil))))
      (pss_cons (ps_set (i := 4) sc__law_good.nd rfl (.inl rfl) (pe_call G_names_of (hr.mono (by omega)) (by rfl) D.names_of.g D.names_of.F.kp D.names_of.b .nil (passes_call (takes_of rfl rfl rfl rfl) (fun _ _ _ _ h => h)) (pa_cons (pe_ix (r := rIxL K) ix_list (pv 0) pe_int (fun _ _ => rfl)) pa_nil)))
      (pss_cons (ps_set (i := 5) sc__law_good.nd rfl (.inl rfl) (pe_call G_edges_of (hr.mono (by omega)) (by rfl) D.edges_of.g D.edges_of.F.kp D.edges_of.b .nil (passes_call (takes_of rfl rfl rfl rfl) (fun _ _ _ _ h => h)) (pa_cons (pe_ix (r := rIxL K) ix_list (pv 0) pe_int (fun _ _ => rfl)) pa_nil)))
      (pss_cons (ps_if (PW.pt (pw_or (pt_not (pt_val (pe_callB call_isi (by rfl) D.B.isinstance (by decide +kernel) (pa_cons (pv 4) (pa_cons (pe_bltn (v := .ty "tuple") (u := .type "tuple") (by rfl) D.B.tuple (by decide +kernel) rfl) pa_nil))))) (pw_or1 (pt_cmpR (RG.op_neDD hr) (pv 4) (pe_call G__law_each_once (hr.mono (by omega)) (by rfl) D._law_each_once.g D._law_each_once.F.kp D._law_each_once.b .nil pass0 (pa_cons (pe_ix (r := rIxL K) ix_list (pv 0) pe_int (fun _ _ => rfl)) pa_nil)) (nomark _))))) (pss_one (ps_ret pe_bl)) pss_nil)
      (pss_cons (ps_if (PW.pt (pw_or (pt_not (pt_val (pe_callB call_isi (by rfl) D.B.isinstance (by decide +kernel) (pa_cons (pv 5) (pa_cons (pe_bltn (v := .ty "tuple") (u := .type "tuple") (by rfl) D.B.tuple (by decide +kernel) rfl) pa_nil))))) (pw_or1 (pt_cmpR (RG.op_neDD hr) (pv 5) (pe_call G__law_each_once (hr.mono (by omega)) (by rfl) D._law_each_once.g D._law_each_once.F.kp D._law_each_once.b .nil pass0 (pa_cons (pe_ix (r := rIxL K) ix_list (pv 0) pe_int (fun _ _ => rfl)) pa_nil)) (nomark _))))) (pss_one (ps_ret pe_bl)) pss_nil)
      (pss_cons (ps_set (i := 6) sc__law_good.nd rfl (.inl rfl) (pe_call G_is_plain (hr.mono (by omega)) (by rfl) D.is_plain.g D.is_plain.F.kp D.is_plain.b .nil (passes_call (takes_of rfl rfl rfl rfl) (fun _ _ _ _ h => h)) (pa_cons (pe_ix (r := rIxL K) ix_list (pv 0) pe_int (fun _ _ => rfl)) pa_nil)))
      (pss_one (ps_ret (pe_and (pe_callB call_isi (by rfl) D.B.isinstance (by decide +kernel) (pa_cons (pv 6) (pa_cons (pe_bltn (v := .ty "bool") (u := .type "bool") (by rfl) D.B.bool (by decide +kernel) rfl) pa_nil))) (pe_one (pe_cmpR op_eq (pv 6) (pe_cmpR op_eq (pe_callB call_len (by rfl) D.B.len PySem.boot_len (pa_cons (pe_ix (r := rIxL K) ix_list (pv 0) pe_int (fun _ _ => rfl)) pa_nil)) pe_int (nomark _)) (nomark _))))))))))))))), ?_⟩
    refine ⟨.ref p, rfl, p, _, _, v, rfl, rfl, sqL hp.at_, rfl, v, _, rfl, aF, fun _ H1 s1 => ?_, fun e => by rw [fF] at e; (cases e)⟩
    have hp := hp.keep (fun b o _ e => s1 b o e) (Same.tups s1)
    refine ⟨rfl, _, rfl, iteFq rfl ?_⟩
    refine ⟨.ref p, rfl, p, _, _, v, rfl, rfl, sqL hp.at_, rfl, ?_⟩
    delta tNil
    refine text_read hp.dh hp.ok hc hdp fun H2 s2 => ?_
    have hp := hp.keep (fun b o _ e => s2 b o e) (Same.tups s2)
    have ss := s1.trans s2
    refine ⟨_, rfl, _, _, .type "str", _, true, rfl, .ty "str", .base (.str _), kit_ty (by decide +kernel), true, rfl, iteF ?_⟩
    refine ⟨_, rfl, .ref p, rfl, p, _, _, .str (T f.txt), rfl, rfl, sqL hp.at_, rfl, rfl, _, rfl, iteFq (by rw [decide_eq_true rfl]; rfl) ?_⟩
    refine ⟨.ref p, rfl, p, _, _, .str (T f.txt), rfl, rfl, sqL hp.at_, rfl, .ref p, rfl, p, _, _, .str (T lo), rfl, rfl, sqL hp.at_, rfl, ?_⟩
    refine ⟨.ref p, rfl, p, _, _, .str (T lo), rfl, rfl, sqL hp.at_, rfl, _, _, rfl, rfl, by rw [T_len, show (Str.ofString "  ").length = 2 by decide, sizeLine_eq]; omega, _, _, rfl, rfl, by rw [lenApp, T_len, len_sp, show (Str.ofString "  ").length = 2 by decide, sizeLine_eq]; omega, ?_⟩
    refine ⟨.ref p, rfl, p, _, _, .str (T f.txt), rfl, rfl, sqL hp.at_, rfl, _, _, rfl, rfl, by rw [T_len, show (Str.ofString "( ").length = 2 by decide, sizeLine_eq]; omega, _, _, rfl, rfl, by rw [lenApp, T_len, len_rb, show (Str.ofString "( ").length = 2 by decide, sizeLine_eq]; omega, ?_⟩
    refine ⟨by show 4 ≤ sizeLine; rw [sizeLine_eq]; decide, fun L nL => ⟨L, rfl, ⟨_, sqL upd_same⟩, ?_⟩⟩
    rw [show Str.ofString "  " ++ T lo ++ Str.ofString " " = T (32 :: (32 :: (lo ++ [32]))) by rw [show Str.ofString "  " = T [32, 32] by decide +kernel, str_spT]; simp [T_app], show Str.ofString "( " ++ T f.txt ++ Str.ofString ")" = T (40 :: (spn 1 ++ (f.txt ++ (spn 0 ++ [41])))) by rw [show Str.ofString "( " = T [40, 32] by decide +kernel, str_rbT]; simp [T_app, spn, List.replicate]]
    have sL := same_upd (o := .lst [.str (T f.txt), .str (T lo), .str (T (32 :: (32 :: (lo ++ [32])))), .str (T (40 :: (spn 1 ++ (f.txt ++ (spn 0 ++ [41])))))]) nL
    have eL : upd H2 L (.lst [.str (T f.txt), .str (T lo), .str (T (32 :: (32 :: (lo ++ [32])))), .str (T (40 :: (spn 1 ++ (f.txt ++ (spn 0 ++ [41])))))]) L = some _ := upd_same
    have hp := hp.keep (fun b o _ e => sL b o e) (Same.tups sL)
    have ss := ss.trans sL
    generalize upd H2 L _ = H3 at sL eL hp ss
    refine forLs (fun i σ H4 => (∃ c2 c3, σ = [some (.ref p), some (.str (T f.txt)), c2, c3, none, none, none]) ∧ Same H3 H4) eL ⟨⟨_, _, rfl⟩, Same.refl _⟩ ?_ ?_ ?_
    · rintro i σ H4 ⟨_, s4⟩
      exact s4 _ _ eL
    · rintro i x σ H4 hx ⟨⟨c2, c3, rfl⟩, s4⟩
      obtain ⟨l, rfl, ln, pl⟩ : ∃ l, x = .str (T l) ∧ l.length ≤ 100000 ∧ parse (wd [] l) = some (f, f.dep) := by
        have m := List.mem_of_getElem? hx
        simp only [List.mem_cons, List.not_mem_nil, or_false] at m
        rcases m with rfl | rfl | rfl | rfl
        · exact ⟨_, rfl, by omega, pF⟩
        · exact ⟨_, rfl, by omega, pL⟩
        · exact ⟨_, rfl, by simp only [List.length_cons, List.length_append, List.length_nil]; omega, by rw [wd_spaces]; exact pL⟩
        · exact ⟨_, rfl, by simp only [List.length_cons, List.length_append, List.length_nil, spn, List.length_replicate]; omega, parse_rd (lo_wrap (lo_txt hp.ok) 1 0).2⟩
      have hp4 := hp.keep (fun b o _ e => s4 b o e) (Same.tups s4)
      refine ⟨_, rfl, from_read ln pl hdp fun u H5 s5 hu => ?_⟩
      have hp5 := hp4.keep (fun b o _ e => s5 b o e) (Same.tups s5)
      obtain ⟨ua, rfl⟩ := dh_ref hu
      obtain ⟨va, rfl⟩ := dh_ref hp5.dh
      refine ⟨_, rfl, .ref p, rfl, p, _, _, .ref va, rfl, rfl, sqL hp5.at_, rfl, ne_same hu hp5.dh lF (by omega) ⟨_, rfl, iteF ?_⟩⟩
      refine ⟨_, rfl, ua, _, rfl, hu.dp, sh1, sh2, by omega, sz, .ref p, rfl, p, _, _, .ref va, rfl, rfl, sqL hp5.at_, rfl, va, _, rfl, hp5.dh.dp, sh1, sh2, by omega, sz, rfl, _, rfl, iteFq (by rw [decide_eq_true rfl]; rfl) ?_⟩
      refine ⟨_, rfl, text_read hu hp.ok hc hdp fun H6 s6 => ?_⟩
      have hp6 := hp5.keep (fun b o _ e => s6 b o e) (Same.tups s6)
      exact ⟨.ref p, rfl, p, _, _, .str (T f.txt), rfl, rfl, sqL hp6.at_, rfl, rfl, _, rfl, iteFq (by rw [decide_eq_true rfl]; rfl) ⟨⟨_, _, rfl⟩, s4.trans (s5.trans s6)⟩⟩
    · rintro σ H4 ⟨⟨c2, c3, rfl⟩, s4⟩
      have hp := hp.keep (fun b o _ e => s4 b o e) (Same.tups s4)
      have ss := ss.trans s4
      obtain ⟨nk, ek⟩ := told_names_ok hp.ok
      have lv := lvs_len f
      refine ⟨.ref p, rfl, p, _, _, v, rfl, rfl, sqL hp.at_, rfl, ?_⟩
      try delta tNil
      refine told_read hp.dh hp.ok hc hdp fun ys ya H5 td s5 e5 => ?_
      have hp := hp.keep (fun b o _ e => s5 b o e) (Same.tups s5)
      refine ⟨.ref p, rfl, p, _, _, v, rfl, rfl, sqL hp.at_, rfl, ?_⟩
      try delta tNil
      refine told_read hp.dh hp.ok hc hdp fun zs za H6 tz s6 e6 => ?_
      have hp := hp.keep (fun b o _ e => s6 b o e) (Same.tups s6)
      have d5 := tup_dh (s6 _ _ e5)
      have d6 := tup_dh e6
      have hy := tup_lay (ys := ys) fun y m => nk y ((td.2.2 y).mp m)
      have hz := tup_lay (ys := zs) fun y m => ek y ((tz.2.2 y).mp m)
      refine ⟨_, rfl, _, _, .type "tuple", _, true, rfl, .ty "tuple", d5.ty, kit_tup d5, true, rfl, iteF ?_⟩
      refine ⟨_, rfl, .ref p, rfl, p, _, _, .ref nl, rfl, rfl, sqL hp.at_, rfl, nl, _, rfl, hp.nm, by omega, fun ys2 a7 H7 td2 s7 e7 => ?_⟩
      have eys := td.unique td2
      subst eys
      have hp := hp.keep (fun b o _ e => s7 b o e) (Same.tups s7)
      refine ne_same (d5.same s7) (tup_dh e7) hy.1 hy.2 ⟨_, rfl, iteF ?_⟩
      refine ⟨_, rfl, _, _, .type "tuple", _, true, rfl, .ty "tuple", (d6.same s7).ty, kit_tup (d6.same s7), true, rfl, iteF ?_⟩
      refine ⟨_, rfl, .ref p, rfl, p, _, _, .ref el, rfl, rfl, sqL hp.at_, rfl, el, _, rfl, hp.ed, by omega, fun zs2 a8 H8 tz2 s8 e8 => ?_⟩
      have ezs := tz.unique tz2
      subst ezs
      have hp := hp.keep (fun b o _ e => s8 b o e) (Same.tups s8)
      refine ne_same (d6.same (s7.trans s8)) (tup_dh e8) hz.1 hz.2 ⟨_, rfl, iteF ?_⟩
      refine ⟨.ref p, rfl, p, _, _, v, rfl, rfl, sqL hp.at_, rfl, v, _, rfl, arg_data hp.dh hp.ok (by omega), fun e => by rw [fF] at e; (cases e), fun _ => ⟨f, rfl, by omega, fun H9 s9 => ?_⟩⟩
      have hp := hp.keep (fun b o _ e => s9 b o e) (Same.tups s9)
      have sE := ss.trans (s5.trans (s6.trans (s7.trans (s8.trans s9))))
      refine ⟨_, rfl, _, _, .type "bool", _, true, rfl, .ty "bool", .base (.bl _), kit_ty (by decide +kernel), _, rfl, iteT ?_⟩
      refine ⟨_, rfl, .ref p, rfl, p, _, _, .ref el, rfl, rfl, sqL hp.at_, rfl, .ref el, f.eds.length, rfl, .inl ⟨_, sqL hp.ed, (List.length_map _).symm⟩, rfl, rfl, ?_⟩
      have e0 : decide (V.int (f.eds.length : Nat) = V.int 0) = decide (f.eds = []) := by
        refine decide_eq_decide.mpr ⟨fun e => ?_, fun e => by rw [e]; rfl⟩
        have := V.int.inj e
        exact List.eq_nil_of_length_eq_zero (by omega)
      rw [e0, decide_eq_true rfl]
      exact q _ sE
end
end K7

set_option Elab.async false
set_option linter.all false
set_option maxRecDepth 100000
set_option maxHeartbeats 4000000
namespace K7
open PySem PySem.Spec PyProof.Rows L2 GX NdefX
/-! ### law -/
def spLaw (K : PySem.W.Frag) : Sp := fun vs H Q _ => ∃ (a : Addr) (ns : List Int), vs = [.ref a] ∧ SqL K H a (ns.map V.int) ∧ ns.length ≤ 63 ∧ ∀ H', Q (.bl true) H'
theorem line_deep {l : List Nat} {f : Fm} {n : Nat} (h : parse (wd [] l) = some (f, n)) (hn : 40 < n) : lineOf (.str (T l)) = 1 := by
  simp only [lineOf, T_list]; rw [h]; simp only; rw [if_neg (by omega)]
theorem line_bad {l : List Nat} (h : NoRead l) : lineOf (.str (T l)) = 1 := by
  unfold NoRead at h
  simp only [lineOf, T_list]; rw [h]
theorem line_read {H : Hp} {Q : VK} {E : XK} {l : List Nat} (hl : l.length ≤ 100000) (h : lineOf (.str (T l)) = 1) (q : ∀ H1, Same H H1 → Q (.int 1) H1) : spLawLine [.str (T l)] H Q E :=
  ⟨_, .str (T l), rfl, .str _, fun x e => by cases e; rw [T_len]; exact hl, fun H1 s => by rw [h]; exact q H1 s⟩
theorem line_zero {H : Hp} {Q : VK} {E : XK} {v : V} {d : PyData} (h : Dh H v d) (hs : isStrD d = false) (q : ∀ H1, Same H H1 → Q (.int 0) H1) : spLawLine [v] H Q E := by
  have e : lineOf d = 0 := by cases d <;> first | rfl | cases hs
  exact ⟨_, d, rfl, h, fun x e => (by subst e; (cases hs)), fun H1 s => by rw [e]; exact q H1 s⟩
theorem dhAll_mem {H : Hp} : ∀ {vs : List V} {ds : List PyData} {i : Nat} {x : V}, DhAll H vs ds → vs[i]? = some x → ∃ d ∈ ds, Dh H x d
  | _, _, i, x, .nil, e => by simp at e
  | _, _, 0, x, .cons h t, e => by
    simp at e; subst e
    exact ⟨_, List.mem_cons_self, h⟩
  | _, _, i + 1, x, .cons h t, e => by
    obtain ⟨d, m, hd⟩ := dhAll_mem t (by simpa using e)
    exact ⟨d, List.mem_cons_of_mem _ m, hd⟩
theorem data_noStr (f : Fm) : isStrD f.data = false := by cases f <;> rfl
theorem many_ok : ∀ y ∈ (["nota", "a.or", "rise0"] : List Str), nameB y = true := by decide +kernel
section
variable {P : Program} {w : World} {K : PySem.W.Frag} {mg : Str → Option Value} {base : Heap}
theorem ok_law {f : Addr} {fd : FuncData} (D : Pr P K mg) (F : Fun K "law" "law" s_law f fd) : RG.FnG P w K mg base (CX P w) 70 f fd ["script"] (spLaw K) := by
  have G__law_numbers : FnOk P w K mg base CX0 1 D._law_numbers.f D._law_numbers.fd ["script"] (spLNums K) := ok_numsD D
  have G__law_draw : FnOk P w K mg base CX0 1 D._law_draw.f D._law_draw.fd ["numbers", "many"] spDraw := ok_drawD D
  have G__law_pool : FnOk P w K mg base CX0 2 D._law_pool.f D._law_pool.fd ["numbers", "total"] spPool := ok_pool D
  have G__law_leaf_told : FnOk P w K mg base CX0 2 D._law_leaf_told.f D._law_leaf_told.fd ["numbers", "names"] spLeafT := ok_leaft D
  have G__law_not_told : FnOk P w K mg base CX0 3 D._law_not_told.f D._law_not_told.fd ["numbers", "part", "bare"] spNotT := ok_nott D
  have G__law_grown : FnOk P w K mg base CX0 4 D._law_grown.f D._law_grown.fd ["numbers", "names"] spGrown := ok_grown D
  have G__law_refused : FnOk P w K mg base (CX P w) 47 D._law_refused.f D._law_refused.fd ["formula"] spRefuse := ok_refuse D
  have G__law_line : FnOk P w K mg base (CX P w) 7 D._law_line.f D._law_line.fd ["text"] spLawLine := ok_line D
  have G__law_good : RG.FnG P w K mg base (CX P w) 47 D._law_good.f D._law_good.fd ["part"] spGood := ok_good D
  have G__law_wide_right : FnOk P w K mg base (CX P w) 47 D._law_wide_right.f D._law_wide_right.fd ["word"] spWide := ok_wide D
  have G__law_bad_texts : FnOk P w K mg base CX0 1 D._law_bad_texts.f D._law_bad_texts.fd ["text", "other", "name"] spBadT := ok_badts D
  have G__law_bad_formulas : FnOk P w K mg base CX0 1 D._law_bad_formulas.f D._law_bad_formulas.fd ["leaf", "name"] spBadF := ok_badfs D
  have G__law_names_right : FnOk P w K mg base CX0 2 D._law_names_right.f D._law_names_right.fd ["names", "name"] spNamesR := ok_namesr D
  refine RG.fnG_of F sc_law (fun vs H Q E h => ?_) (fun cdv A outer s H vs Q E guard hr h => ?_)
  · obtain ⟨a, ns, rfl, _⟩ := h
    rfl
  · obtain ⟨a, ns, rfl, hq, hl, q⟩ := h
    refine ⟨_, (pss_cons (ps_set (i := 1) sc_law.nd rfl (.inl rfl) (pe_call G__law_numbers (hr.mono (by omega)) (by rfl) D._law_numbers.g D._law_numbers.F.kp D._law_numbers.b .nil pass0 (pa_cons (pv 0) pa_nil)))
      (pss_cons (ps_set (i := 2) sc_law.nd rfl (.inl rfl) (pe_call G__law_pool (hr.mono (by omega)) (by rfl) D._law_pool.g D._law_pool.F.kp D._law_pool.b .nil pass0 (pa_cons (pv 1) (pa_cons pe_int pa_nil))))
      (pss_cons (ps_set (i := 3) sc_law.nd rfl (.inl rfl) (pe_ix (r := rIxL K) ix_list (pv 2) pe_int (fun _ _ => rfl)))
      (pss_cons (ps_set (i := 4) sc_law.nd rfl (.inl rfl) (pe_op op_cat (pv 2) (pe_lst (pa_cons pe_str (pa_cons pe_str (pa_cons (pe_op RG.op_repS pe_str pe_int) (pa_cons pe_str pa_nil)))))))
      (pss_cons (ps_set (i := 5) sc_law.nd rfl (.inl rfl) (pe_call G__law_grown (hr.mono (by omega)) (by rfl) D._law_grown.g D._law_grown.F.kp D._law_grown.b .nil pass0 (pa_cons (pv 1) (pa_cons (pv 4) pa_nil))))
      (pss_cons (ps_set (i := 6) sc_law.nd rfl (.inl rfl) (pe_ix (r := rIxL K) ix_list (pe_lst (pa_cons pe_int (pa_cons pe_int (pa_cons pe_int (pa_cons pe_int (pa_cons pe_int (pa_cons pe_int pa_nil))))))) (pe_call G__law_draw (hr.mono (by omega)) (by rfl) D._law_draw.g D._law_draw.F.kp D._law_draw.b .nil pass0 (pa_cons (pv 1) (pa_cons pe_int pa_nil))) (fun _ _ => rfl)))
      (pss_cons (ps_for (by passes_own) rfl (pi_range1 (by rfl) D.B.range (pa_cons pe_int pa_nil)) (pg_name (i := 7) sc_law.nd rfl (.inl rfl)) (pss_one (ps_if (pt_cmpR op_lt (pe_ix (r := rIxL K) ix_list (pv 5) pe_int (fun _ _ => rfl)) (pv 6) (nomark _)) (pss_one (ps_set (i := 5) sc_law.nd rfl (.inl rfl) (pe_call G__law_not_told (hr.mono (by omega)) (by rfl) D._law_not_told.g D._law_not_told.F.kp D._law_not_told.b .nil pass0 (pa_cons (pv 1) (pa_cons (pv 5) (pa_cons (pe_cmpR op_gt (pv 7) pe_int (nomark _)) pa_nil)))))) pss_nil)))
      (pss_cons (ps_if (pt_cmpR op_gt (pe_ix (r := rIxL K) ix_list (pv 5) pe_int (fun _ _ => rfl)) pe_int (nomark _)) (pss_cons (ps_if (PW.pt (pw_or (pt_not (pt_val (pe_call G__law_refused (hr.mono (by omega)) (by rfl) D._law_refused.g D._law_refused.F.kp D._law_refused.b .nil (passes_call (takes_of rfl rfl rfl rfl) (fun _ _ _ _ h => h)) (pa_cons (pe_ix (r := rIxL K) ix_list (pv 5) pe_int (fun _ _ => rfl)) pa_nil)))) (pw_or (pt_cmpR op_ne (pe_call G__law_line (hr.mono (by omega)) (by rfl) D._law_line.g D._law_line.F.kp D._law_line.b .nil (passes_call (takes_of rfl rfl rfl rfl) (fun _ _ _ _ h => h)) (pa_cons (pe_ix (r := rIxL K) ix_list (pv 5) pe_int (fun _ _ => rfl)) pa_nil)) pe_int (nomark _)) (pw_or1 (pt_cmpR op_ne (pe_call G__law_line (hr.mono (by omega)) (by rfl) D._law_line.g D._law_line.F.kp D._law_line.b .nil (passes_call (takes_of rfl rfl rfl rfl) (fun _ _ _ _ h => h)) (pa_cons (pe_ix (r := rIxL K) ix_list (pv 5) pe_int (fun _ _ => rfl)) pa_nil)) pe_int (nomark _)))))) (pss_one (ps_ret pe_bl)) pss_nil) (pss_one (ps_set (i := 5) sc_law.nd rfl (.inl rfl) (pe_call G__law_grown (hr.mono (by omega)) (by rfl) D._law_grown.g D._law_grown.F.kp D._law_grown.b .nil pass0 (pa_cons (pv 1) (pa_cons (pv 4) pa_nil)))))) pss_nil)
      (pss_cons (ps_for (by passes_own) rfl (pi_range1 (by rfl) D.B.range (pa_cons pe_int pa_nil)) (pg_name (i := 7) sc_law.nd rfl (.inl rfl)) (pss_one (ps_if (pt_not (pt_val (RG.peG_call G__law_good guard (hr.mono (by omega)) (by rfl) D._law_good.g D._law_good.F.kp D._law_good.b .nil (passes_call (takes_of rfl rfl rfl rfl) (fun _ _ _ _ h => h)) (pa_cons (pv 5) pa_nil)))) (pss_one (ps_ret pe_bl)) pss_nil)))
      (pss_cons (ps_set (i := 8) sc_law.nd rfl (.inl rfl) (pe_call G__law_leaf_told (hr.mono (by omega)) (by rfl) D._law_leaf_told.g D._law_leaf_told.F.kp D._law_leaf_told.b .nil pass0 (pa_cons (pv 1) (pa_cons (pv 4) pa_nil))))
      (pss_cons (ps_if (PW.pt (pw_and (pt_cmpR op_eq (pe_call G__law_draw (hr.mono (by omega)) (by rfl) D._law_draw.g D._law_draw.F.kp D._law_draw.b .nil pass0 (pa_cons (pv 1) (pa_cons pe_int pa_nil))) pe_int (nomark _)) (pw_and1 (pt_not (pt_val (pe_call G__law_wide_right (hr.mono (by omega)) (by rfl) D._law_wide_right.g D._law_wide_right.F.kp D._law_wide_right.b .nil (passes_call (takes_of rfl rfl rfl rfl) (fun _ _ _ _ h => h)) (pa_cons (pe_call G__law_draw (hr.mono (by omega)) (by rfl) D._law_draw.g D._law_draw.F.kp D._law_draw.b .nil pass0 (pa_cons (pv 1) (pa_cons pe_int pa_nil))) pa_nil))))))) (pss_one (ps_ret pe_bl)) pss_nil)
      (pss_cons (ps_for (by passes_own) rfl (pi_seq (pe_call G__law_bad_texts (hr.mono (by omega)) (by rfl) D._law_bad_texts.g D._law_bad_texts.F.kp D._law_bad_texts.b .nil pass0 (pa_cons (pe_ix (r := rIxL K) ix_list (pv 5) pe_int (fun _ _ => rfl)) (pa_cons (pe_ix (r := rIxL K) ix_list (pv 8) pe_int (fun _ _ => rfl)) (pa_cons (pv 3) pa_nil))))) (pg_name (i := 9) sc_law.nd rfl (.inl rfl)) (pss_one (ps_if (pt_cmpR op_ne (pe_call G__law_line (hr.mono (by omega)) (by rfl) D._law_line.g D._law_line.F.kp D._law_line.b .nil (passes_call (takes_of rfl rfl rfl rfl) (fun _ _ _ _ h => h)) (pa_cons (pv 9) pa_nil)) pe_int (nomark _)) (pss_one (ps_ret pe_bl)) pss_nil)))
      (pss_cons (ps_for (by passes_own) rfl (pi_list (pe_lst (pa_cons pe_non (pa_cons pe_int (pa_cons (pe_tup (pa_cons pe_str (pa_cons (pv 3) pa_nil))) (pa_cons (pe_lst (pa_cons (pv 3) pa_nil)) (pa_cons (pe_ix (r := rIxL K) ix_list (pv 5) pe_int (fun _ _ => rfl)) (pa_cons pe_bl pa_nil)))))))) (pg_name (i := 9) sc_law.nd rfl (.inl rfl)) (pss_one (ps_if (pt_cmpR op_ne (pe_call G__law_line (hr.mono (by omega)) (by rfl) D._law_line.g D._law_line.F.kp D._law_line.b .nil (passes_call (takes_of rfl rfl rfl rfl) (fun _ _ _ _ h => h)) (pa_cons (pv 9) pa_nil)) pe_int (nomark _)) (pss_one (ps_ret pe_bl)) pss_nil)))
      (pss_cons (ps_for (by passes_own) rfl (pi_seq (pe_call G__law_bad_formulas (hr.mono (by omega)) (by rfl) D._law_bad_formulas.g D._law_bad_formulas.F.kp D._law_bad_formulas.b .nil pass0 (pa_cons (pe_ix (r := rIxL K) ix_list (pv 8) pe_int (fun _ _ => rfl)) (pa_cons (pv 3) pa_nil)))) (pg_name (i := 10) sc_law.nd rfl (.inl rfl)) (pss_one (ps_if (pt_not (pt_val (pe_call G__law_refused (hr.mono (by omega)) (by rfl) D._law_refused.g D._law_refused.F.kp D._law_refused.b .nil (passes_call (takes_of rfl rfl rfl rfl) (fun _ _ _ _ h => h)) (pa_cons (pv 10) pa_nil)))) (pss_one (ps_ret pe_bl)) pss_nil)))
      (pss_one (ps_ret (pe_and (pe_call G__law_names_right (hr.mono (by omega)) (by rfl) D._law_names_right.g D._law_names_right.F.kp D._law_names_right.b .nil pass0 (pa_cons (pv 2) (pa_cons (pv 3) pa_nil))) (pe_one (RG.peG_call G__law_good guard (hr.mono (by omega)) (by rfl) D._law_good.g D._law_good.F.kp D._law_good.b .nil (passes_call (takes_of rfl rfl rfl rfl) (fun _ _ _ _ h => h)) (pa_cons (pv 8) pa_nil)))))))))))))))))))), ?_⟩
    refine ⟨.ref a, rfl, a, ns, rfl, hq, hl, fun N H1 l s1 fN eN lN => ?_⟩
    have n1 : NumsAt H1 N := ⟨l, eN, lN⟩
    clear eN lN
    refine ⟨_, rfl, N, rfl, n1, fun NP H2 pl hpl s2 n2 fNP eNP => ?_⟩
    have nNP : NP ≠ N := fun e => by
      subst e
      obtain ⟨l, e, _⟩ := n1
      rw [e] at fNP; cases fNP
    obtain ⟨z, pr, rfl⟩ : ∃ z pr, pl = z :: pr := by
      have := hpl.1
      cases pl with
      | nil => simp at this
      | cons z pr => exact ⟨z, pr, rfl⟩
    have okp := hpl.names
    have hz := okp z List.mem_cons_self
    have lp := hpl.1
    refine ⟨_, rfl, NP, _, _, .str z, rfl, rfl, sqL eNP, atI_nat (j := 0) rfl, ?_⟩
    refine ⟨_, rfl, _, 40, rfl, rfl, by decide, by decide, fun b eb => ?_⟩
    obtain rfl := T_eq eb
    refine ⟨by show 4 ≤ sizeLine; rw [sizeLine_eq]; decide, fun A1 nA1 => ⟨NP, A1, _, _, rfl, rfl, same_upd nA1 _ _ eNP, upd_same, by unfold txs; rw [List.length_map, sizeLine_eq]; show (z :: pr).length + 4 ≤ _; omega, fun MN nMN => ?_⟩⟩
    have qm : MN ≠ A1 := fun e => by subst e; rw [upd_same] at nMN; cases nMN
    have nM2 := nMN
    rw [upd_ne qm] at nM2
    have nMN' : MN ≠ N := fun e => by
      subst e
      obtain ⟨l, e, _⟩ := n2
      rw [e] at nM2; cases nM2
    have em : txs (z :: pr) ++ [V.str (Str.ofString "nota"), V.str (Str.ofString "a.or"), V.str (T (RG.repL (Str.ofString "z").cps.toList 40)), V.str (Str.ofString "rise0")] = txs ((z :: pr) ++ [Str.ofString "nota", Str.ofString "a.or", T (RG.repL (Str.ofString "z").cps.toList 40), Str.ofString "rise0"]) := by
      unfold txs; rw [List.map_append]; rfl
    rw [em]
    have okm : ∀ y ∈ (z :: pr) ++ [Str.ofString "nota", Str.ofString "a.or", T (RG.repL (Str.ofString "z").cps.toList 40), Str.ofString "rise0"], nameB y = true := fun y m => by
      rcases List.mem_append.mp m with m | m
      · exact okp y m
      · simp only [List.mem_cons, List.not_mem_nil, or_false] at m
        rcases m with rfl | rfl | rfl | rfl
        · exact many_ok _ (by simp)
        · exact many_ok _ (by simp)
        · exact z_name.1
        · exact many_ok _ (by simp)
    have lm : ((z :: pr) ++ [Str.ofString "nota", Str.ofString "a.or", T (RG.repL (Str.ofString "z").cps.toList 40), Str.ofString "rise0"]).length = 8 := by
      rw [List.length_append, lp]; rfl
    generalize hmany : (z :: pr) ++ [Str.ofString "nota", Str.ofString "a.or", T (RG.repL (Str.ofString "z").cps.toList 40), Str.ofString "rise0"] = many at okm lm
    obtain ⟨H3, eH3⟩ : ∃ H3, H3 = upd (upd H2 A1 (.lst [V.str (Str.ofString "nota"), V.str (Str.ofString "a.or"), V.str (T (RG.repL (Str.ofString "z").cps.toList 40)), V.str (Str.ofString "rise0")])) MN (.lst (txs many)) := ⟨_, rfl⟩
    rw [← eH3]
    have sm : Same H2 H3 := fun b o e => by rw [eH3, upd_ne (ne_of_none e nM2), upd_ne (ne_of_none e nA1)]; exact e
    have n3 := n2.same sm
    have eNP3 := sm _ _ eNP
    have eMN3 : H3 MN = some (.lst (txs many)) := by rw [eH3, upd_same]
    clear eH3 nMN nM2 qm nA1 hmany em eb eNP n2 s2 fNP n1 sm
    have hzN : H3 N ≠ none := by
      obtain ⟨l, e, _⟩ := n3
      rw [e]; simp
    refine ⟨_, rfl, _, rfl, N, MN, many, rfl, eMN3, nMN', by omega, by omega, okm, n3, fun p H4 f lo s4 n4 hp hc => ?_⟩
    have hp := hp.mono (Z' := fun b => b = N) (fun b e => by subst e; exact hzN)
    refine ⟨by show 6 ≤ sizeLine; rw [sizeLine_eq]; decide, fun TL nTL => ⟨.ref N, rfl, N, 6, rfl, by decide, n4.same (same_upd nTL), fun H5 r5 hr5 s5 n5 => ?_⟩⟩
    have nTN : TL ≠ N := fun e => by
      subst e
      obtain ⟨l, e, _⟩ := n4
      rw [e] at nTL; cases nTL
    have eTL := s5 _ _ nTN upd_same
    have s5' := (sameB_of (a := N) (same_upd nTL)).trans s5
    have hp := hp.keep (s5'.offz (Z := fun b => b = N) rfl) (s5'.tups n4)
    have ss := s4.trans s5'
    obtain ⟨t, ht, et⟩ : ∃ t : Nat, t ≤ 41 ∧ ([V.int 0, V.int 0, V.int 0, V.int 0, V.int 40, V.int 41])[r5]? = some (.int (t : Nat)) := by
      obtain rfl | rfl | rfl | rfl | rfl | rfl : r5 = 0 ∨ r5 = 1 ∨ r5 = 2 ∨ r5 = 3 ∨ r5 = 4 ∨ r5 = 5 := by omega
      · exact ⟨0, by omega, rfl⟩
      · exact ⟨0, by omega, rfl⟩
      · exact ⟨0, by omega, rfl⟩
      · exact ⟨0, by omega, rfl⟩
      · exact ⟨40, by omega, rfl⟩
      · exact ⟨41, by omega, rfl⟩
    refine ⟨TL, _, _, .int (t : Nat), rfl, rfl, sqL eTL, atI_nat et, ?_⟩
    refine ⟨41, rfl, by decide, by decide, ?_⟩
    refine forRg (n := 41) (fun i σ H6 => ∃ p f lo c7, σ = [some (.ref a), some (.ref N), some (.ref NP), some (.str z), some (.ref MN), some (.ref p), some (.int (t : Nat)), c7, none, none, none] ∧ SameB N H3 H6 ∧ NumsAt H6 N ∧ PartX H6 (fun b => b = N) p f lo ∧ f.cnt ≤ 31 + i ∧ f.dep ≤ 41) ⟨p, f, lo, _, rfl, ss, n5, hp, by omega, by have := dep_cnt f; omega⟩ ?_ ?_
    · clear hp hc ss s5' eTL s5 n5 et hr5 nTN nTL n4 s4
      rintro i σ H6 hi ⟨p, f, lo, c7, rfl, s6, n6, hp, hc, hd⟩
      have hi : i < 41 := hi
      have hp0 := hp
      obtain ⟨v, nl, el, hp⟩ := hp
      refine ⟨.ref p, rfl, p, _, _, .int (f.dep : Nat), rfl, rfl, sqL hp.at_, rfl, _, rfl, f.dep, t, rfl, rfl, _, rfl, ?_⟩
      by_cases hlt : f.dep < t
      · refine iteTq (decide_eq_true (by omega)) ⟨_, rfl, _, rfl, _, rfl, i, 3, rfl, rfl, N, p, _, f, lo, (fun b => b = N), rfl, n6, rfl, fun b e => by subst e; (obtain ⟨l, e, _⟩ := n6); rw [e]; simp, hp0, by omega, fun p7 H7 lo7 s7 n7 hp7 => ?_⟩
        exact ⟨p7, .not f, lo7, _, rfl, s6.trans s7, n7, hp7, by simp only [Fm.cnt]; omega, by simp only [Fm.dep]; omega⟩
      · refine iteFq (decide_eq_false (by omega)) ⟨p, f, lo, _, rfl, s6, n6, hp0, by omega, hd⟩
    · clear hp hc ss s5' eTL s5 n5 et hr5 nTN nTL n4 s4
      rintro σ H6 ⟨p, f, lo, c7, rfl, s6, n6, hp, hc, hd⟩
      have hp0 := hp
      obtain ⟨v, nl, el, hp⟩ := hp
      refine ⟨.ref p, rfl, p, _, _, .int (f.dep : Nat), rfl, rfl, sqL hp.at_, rfl, f.dep, 40, rfl, rfl, _, rfl, ?_⟩
      have hlen := hp.len
      have tlen := txt_len f hp.ok
      by_cases h40 : 40 < f.dep
      case' pos =>
        have fF := form_data f hp.ok
        rw [decide_eq_false (by omega)] at fF
        refine iteTq (decide_eq_true (by omega)) ?_
        refine ⟨.ref p, rfl, p, _, _, v, rfl, rfl, sqL hp.at_, rfl, v, _, rfl, arg_data hp.dh hp.ok (by omega), fF, fun H7 s7 => ⟨true, rfl, iteF ?_⟩⟩
        have hp7 := hp.keep (fun b o _ e => s7 b o e) (Same.tups s7)
        refine ⟨.ref p, rfl, p, _, _, .str (T f.txt), rfl, rfl, sqL hp7.at_, rfl, ?_⟩
        try delta tNil
        refine line_read (by omega) (line_deep (parse_rd (txt_rd f hp.ok)) h40) fun H8 s8 => ⟨rfl, _, rfl, iteFq (by rw [decide_eq_true rfl]; rfl) ?_⟩
        have hp8 := hp7.keep (fun b o _ e => s8 b o e) (Same.tups s8)
        refine ⟨.ref p, rfl, p, _, _, .str (T lo), rfl, rfl, sqL hp8.at_, rfl, ?_⟩
        try delta tNil
        refine line_read (by omega) (line_deep (parse_rd hp.lok.2) h40) fun H9 s9 => ⟨rfl, _, rfl, iteFq (by rw [decide_eq_true rfl]; rfl) ?_⟩
        have sg := s6.trans (sameB_of (s7.trans (s8.trans s9)))
        have n9 := n6.same (s7.trans (s8.trans s9))
        refine ⟨_, rfl, _, rfl, N, MN, many, rfl, sg _ _ nMN' eMN3, nMN', by omega, by omega, okm, n9, fun p2 H10 f2 lo2 s10 n10 hp10 hc10 => ?_⟩
        have hp10 := hp10.mono (Z' := fun b => b = N) (fun b e => by subst e; (obtain ⟨l, e, _⟩ := n9); rw [e]; simp)
        have s10 := sg.trans s10
        have hc10 : f2.cnt ≤ 72 := by omega
        have hd10 : f2.dep ≤ 40 := by have := dep_cnt f2; omega
      case' neg =>
        refine iteFq (decide_eq_false (by omega)) ?_
        obtain ⟨H10, e10⟩ : ∃ H10, H10 = H6 := ⟨_, rfl⟩
        obtain ⟨p2, ep2⟩ : ∃ p2, p2 = p := ⟨_, rfl⟩
        obtain ⟨f2, ef2⟩ : ∃ f2, f2 = f := ⟨_, rfl⟩
        obtain ⟨lo2, el2⟩ : ∃ lo2, lo2 = lo := ⟨_, rfl⟩
        have s10 : SameB N H3 H10 := e10 ▸ s6
        have n10 : NumsAt H10 N := e10 ▸ n6
        have hp10 := hp0
        rw [← e10, ← ep2, ← ef2, ← el2] at hp10
        have hc10 : f2.cnt ≤ 72 := by rw [ef2]; omega
        have hd10 : f2.dep ≤ 40 := by rw [ef2]; omega
        rw [← e10, ← ep2]
      all_goals
        refine ⟨2, rfl, by decide, by decide, ?_⟩
        refine forRg (n := 2) (fun i σ H11 => ∃ c7, σ = [some (.ref a), some (.ref N), some (.ref NP), some (.str z), some (.ref MN), some (.ref p2), some (.int (t : Nat)), c7, none, none, none] ∧ Same H10 H11) ⟨_, rfl, Same.refl _⟩ ?_ ?_
        · rintro i σ H11 hi ⟨c7, rfl, s11⟩
          exact ⟨_, rfl, p2, f2, lo2, _, rfl, hp10.keep (fun b o _ e => s11 b o e) (Same.tups s11), by omega, hd10, fun H12 s12 => ⟨true, rfl, iteF ⟨_, rfl, s11.trans s12⟩⟩⟩
        · rintro σ H11 ⟨c7, rfl, s11⟩
          have s11' := s10.trans (sameB_of (a := N) s11)
          have n11 := n10.same s11
          have hp11 := hp10.keep (fun b o _ e => s11 b o e) (Same.tups s11)
          refine ⟨_, rfl, _, rfl, N, MN, many, rfl, s11' _ _ nMN' eMN3, nMN', by omega, by omega, okm, n11, fun po H12 o loo s12 n12 hpo co => ?_⟩
          have hpo := hpo.mono (Z' := fun b => b = N) (fun b e => by subst e; (obtain ⟨l, e, _⟩ := n11); rw [e]; simp)
          have hp12 := hp11.keep (s12.offz (Z := fun b => b = N) rfl) (s12.tups n11)
          have ss12 := s11'.trans s12
          have co2 : o.cnt = 1 := co
          obtain ⟨vp, np', ep', hq12⟩ := hp12
          obtain ⟨vo, no', eo', ho12⟩ := hpo
          clear hp11 hp10 s11' s11 n11 s12 s10 n10
          refine ⟨_, rfl, N, 12, rfl, by decide, n12, fun H13 r13 _ s13 n13 => ⟨rfl, _, rfl, ?_⟩⟩
          have hq13 := hq12.keep (s13.offz (Z := fun b => b = N) rfl) (s13.tups n12)
          have ho13 := ho12.keep (s13.offz (Z := fun b => b = N) rfl) (s13.tups n12)
          have ss13 := ss12.trans s13
          by_cases e11 : r13 = 11
          case' pos =>
            refine iteTq (decide_eq_true (by rw [e11]; rfl)) ⟨_, rfl, N, 3, rfl, by decide, n13, fun H14 r14 h14 s14 n14 => ⟨r14, rfl, h14, fun H15 s15 => ⟨true, rfl, iteF ?_⟩⟩⟩
            have hq15 := (hq13.keep (s14.offz (Z := fun b => b = N) rfl) (s14.tups n13)).keep (fun b o _ e => s15 b o e) (Same.tups s15)
            have ho15 := (ho13.keep (s14.offz (Z := fun b => b = N) rfl) (s14.tups n13)).keep (fun b o _ e => s15 b o e) (Same.tups s15)
            have ss15 := ss13.trans (s14.trans (sameB_of s15))
          case' neg =>
            refine iteFq (decide_eq_false (fun e => e11 (by have := V.int.inj e; omega))) (iteF ?_)
            obtain ⟨H15, e15⟩ : ∃ H15, H15 = H13 := ⟨_, rfl⟩
            have hq15 := hq13
            have ho15 := ho13
            have ss15 := ss13
            rw [← e15] at hq15 ho15 ss15
            rw [← e15]
          all_goals
            have l2 := txt_len f2 hq15.ok
            have lo2' := txt_len o ho15.ok
            refine ⟨.ref p2, rfl, p2, _, _, .str (T f2.txt), rfl, rfl, sqL hq15.at_, rfl, .ref po, rfl, po, _, _, .str (T o.txt), rfl, rfl, sqL ho15.at_, rfl, _, rfl, f2, o, z, rfl, hq15.ok, ho15.ok, hz, by omega, by omega, fun L ls H17 s17 eL hls => ?_⟩
            have hq17 := hq15.keep (fun b o _ e => s17 b o e) (Same.tups s17)
            have ho17 := ho15.keep (fun b o _ e => s17 b o e) (Same.tups s17)
            have ss17 := ss15.trans (sameB_of (a := N) s17)
            refine ⟨L, _, rfl, .inl ⟨sqL eL, forLs (fun i σ H18 => ∃ c9, σ = [some (.ref a), some (.ref N), some (.ref NP), some (.str z), some (.ref MN), some (.ref p2), some (.int (t : Nat)), c7, some (.ref po), c9, none] ∧ Same H17 H18) eL ⟨_, rfl, Same.refl _⟩ ?_ ?_ ?_⟩⟩
            · rintro i σ H18 ⟨c9, rfl, s18⟩
              exact s18 _ _ eL
            · rintro i x σ H18 hx ⟨c9, rfl, s18⟩
              rw [List.getElem?_map] at hx
              obtain ⟨l, hl2, rfl⟩ := Option.map_eq_some_iff.mp hx
              obtain ⟨ln, nr⟩ := hls l (List.mem_of_getElem? hl2)
              refine ⟨_, rfl, ?_⟩
              try delta tNil
              exact line_read ln (line_bad nr) fun H19 s19 => ⟨rfl, _, rfl, iteFq (by rw [decide_eq_true rfl]; rfl) ⟨_, rfl, s18.trans s19⟩⟩
            · rintro σ H18 ⟨c9, rfl, s18⟩
              have hq18 := hq17.keep (fun b o _ e => s18 b o e) (Same.tups s18)
              have ho18 := ho17.keep (fun b o _ e => s18 b o e) (Same.tups s18)
              have ss18 := ss17.trans (sameB_of (a := N) s18)
              refine ⟨_, rfl, by show 2 ≤ sizeLine; rw [sizeLine_eq]; decide, fun T1 nT1 => ?_⟩
              have sT := same_upd (o := .tup [.str (Str.ofString "name"), .str z]) nT1
              refine ⟨_, rfl, by show 1 ≤ sizeLine; rw [sizeLine_eq]; decide, fun L1 nL1 => ?_⟩
              have sL := same_upd (o := .lst [.str z]) nL1
              have hq19 := hq18.keep (fun b o _ e => (sT.trans sL) b o e) (Same.tups (sT.trans sL))
              refine ⟨.ref p2, rfl, p2, _, _, vp, rfl, rfl, sqL hq19.at_, rfl, by show 6 ≤ sizeLine; rw [sizeLine_eq]; decide, fun LL nLL => ⟨LL, rfl, ⟨_, sqL upd_same⟩, ?_⟩⟩
              have sLL := same_upd (o := .lst [.non, .int 5, .ref T1, .ref L1, vp, .bl true]) nLL
              have dT : Dh (upd (upd (upd H18 T1 (.tup [.str (Str.ofString "name"), .str z])) L1 (.lst [.str z])) LL (.lst [.non, .int 5, .ref T1, .ref L1, vp, .bl true])) (.ref T1) (.tuple [.str (Str.ofString "name"), .str z]) := .tup (sLL _ _ (sL _ _ upd_same)) (.cons (.str _) (.cons (.str z) .nil))
              have dL : Dh (upd (upd (upd H18 T1 (.tup [.str (Str.ofString "name"), .str z])) L1 (.lst [.str z])) LL (.lst [.non, .int 5, .ref T1, .ref L1, vp, .bl true])) (.ref L1) (.list [.str z]) := .lst (sLL _ _ upd_same) (.cons (.str z) .nil)
              have dP := hq19.dh.same sLL
              have eLL : upd (upd (upd H18 T1 (.tup [.str (Str.ofString "name"), .str z])) L1 (.lst [.str z])) LL (.lst [.non, .int 5, .ref T1, .ref L1, vp, .bl true]) LL = some (.lst [.non, .int 5, .ref T1, .ref L1, vp, .bl true]) := upd_same
              have s20 : Same H18 (upd (upd (upd H18 T1 (.tup [.str (Str.ofString "name"), .str z])) L1 (.lst [.str z])) LL (.lst [.non, .int 5, .ref T1, .ref L1, vp, .bl true])) := sT.trans (sL.trans sLL)
              generalize upd (upd (upd H18 T1 (.tup [.str (Str.ofString "name"), .str z])) L1 (.lst [.str z])) LL (.lst [.non, .int 5, .ref T1, .ref L1, vp, .bl true]) = H20 at dT dL dP eLL s20
              have hds : DhAll H20 [.non, .int 5, .ref T1, .ref L1, vp, .bl true] [.none, .int 5, .tuple [.str (Str.ofString "name"), .str z], .list [.str z], f2.data, .bool true] := .cons .non (.cons (.int 5) (.cons dT (.cons dL (.cons dP (.cons (.bl true) .nil)))))
              refine forLs (fun i σ H21 => ∃ c9, σ = [some (.ref a), some (.ref N), some (.ref NP), some (.str z), some (.ref MN), some (.ref p2), some (.int (t : Nat)), c7, some (.ref po), c9, none] ∧ Same H20 H21) eLL ⟨_, rfl, Same.refl _⟩ ?_ ?_ ?_
              · rintro i σ H21 ⟨c9, rfl, s21⟩
                exact s21 _ _ eLL
              · rintro i x σ H21 hx ⟨c9, rfl, s21⟩
                obtain ⟨d, md, hd2⟩ := dhAll_mem hds hx
                have nd : isStrD d = false := by
                  simp only [List.mem_cons, List.not_mem_nil, or_false] at md
                  rcases md with rfl | rfl | rfl | rfl | rfl | rfl <;> first | rfl | exact data_noStr f2
                refine ⟨_, rfl, ?_⟩
                try delta tNil
                exact line_zero (hd2.same s21) nd fun H22 s22 => ⟨rfl, _, rfl, iteFq (by rw [decide_eq_true rfl]; rfl) ⟨_, rfl, s21.trans s22⟩⟩
              · rintro σ H21 ⟨c9, rfl, s21⟩
                have s18' := s20.trans s21
                have ho21 := ho18.keep (fun b o _ e => s18' b o e) (Same.tups s18')
                have ss21 := ss18.trans (sameB_of (a := N) s18')
                refine ⟨.ref po, rfl, po, _, _, vo, rfl, rfl, sqL ho21.at_, rfl, _, rfl, vo, o, z, rfl, ho21.dh, ho21.ok, co2, hz, fun L3 xs ds H22 s22 e22 hds2 hbad => ?_⟩
                refine ⟨L3, xs, rfl, .inl ⟨sqL e22, forLs (fun i σ H23 => ∃ c10, σ = [some (.ref a), some (.ref N), some (.ref NP), some (.str z), some (.ref MN), some (.ref p2), some (.int (t : Nat)), c7, some (.ref po), c9, c10] ∧ Same H22 H23) e22 ⟨_, rfl, Same.refl _⟩ ?_ ?_ ?_⟩⟩
                · rintro i σ H23 ⟨c10, rfl, s23⟩
                  exact s23 _ _ e22
                · rintro i x σ H23 hx ⟨c10, rfl, s23⟩
                  obtain ⟨d, md, hd2⟩ := dhAll_mem hds2 hx
                  have bd := hbad d md
                  exact ⟨_, rfl, x, d, rfl, bd.arg (hd2.same s23), bd.1.1, fun H24 s24 => ⟨true, rfl, iteF ⟨_, rfl, s23.trans s24⟩⟩⟩
                · rintro σ H23 ⟨c10, rfl, s23⟩
                  have s24 := s22.trans s23
                  have ho24 := ho21.keep (fun b o _ e => s24 b o e) (Same.tups s24)
                  have ss24 := ss21.trans (sameB_of (a := N) s24)
                  refine ⟨_, rfl, _, rfl, NP, z :: pr, z, rfl, ss24 _ _ nNP eNP3, by omega, okp, by have := (nameS_of hz).2; omega, fun H25 s25 => ⟨_, rfl, iteT ?_⟩⟩
                  have ho25 := ho24.keep (fun b o _ e => s25 b o e) (Same.tups s25)
                  exact ⟨_, rfl, po, o, loo, _, rfl, ⟨vo, no', eo', ho25⟩, by omega, by have := dep_cnt o; omega, fun H26 s26 => q H26⟩
end
end K7

set_option Elab.async false
set_option linter.all false
set_option maxRecDepth 100000
set_option maxHeartbeats 4000000
namespace K7
open PySem PySem.Spec PyProof.Rows L2 GX NdefX
theorem exm_of {K : PySem.W.Frag} {S C : Addr} {b : Bool} (h1 : PySem.W.subIn K (.ref C) (.type "BaseException") = some true) (h2 : PySem.W.isClsIn K C = true) (h3 : PySem.W.typeIn K (.ref C) = some (.type "type")) (h4 : PySem.W.subIn K (.ref S) (.ref C) = some b) :
    PySem.W.exmOne K (.ref S) (.ref C) = some b := by
  have e1 : (PySem.W.subIn K (.ref C) (.type "BaseException") == some true) = true := by rw [h1] <;> rfl
  have e2 : ((PySem.W.clsIn K C).isSome && PySem.W.typeIn K (.ref C) == some (.type "type")) = true := by
    have h2' : (PySem.W.clsIn K C).isSome = true := h2
    rw [h2', h3] <;> rfl
  show (if (PySem.W.subIn K (.ref C) (.type "BaseException") == some true) = true then (if ((PySem.W.clsIn K C).isSome && PySem.W.typeIn K (.ref C) == some (.type "type")) = true then PySem.W.subIn K (.ref S) (.ref C) else none) else none) = some b
  rw [if_pos e1, if_pos e2]
  exact h4
theorem all_mk {P : Program} {w : World} {K : PySem.W.Frag} {h : Heap} {mg : Str → Option Value} {fa : Addr} (X : K.In h) (G : h.Ns mainGlobals mg) (hfa : mg "law" = some (.ref fa))
    {KBracket KReader gBracket_init gBracket_take gBracket_whole gReader_init gReader_read gReader_read_edge_name gReader_read_beginning gReader_read_behind gReader_took : Addr}
    {ocBracket_init kVBracket_init dcBracket_init pmBracket_init cdBracket_init ctBracket_init ocBracket_take kVBracket_take dcBracket_take pmBracket_take cdBracket_take ctBracket_take ocBracket_whole kVBracket_whole dcBracket_whole pmBracket_whole cdBracket_whole ctBracket_whole ocReader_init kVReader_init dcReader_init pmReader_init cdReader_init ctReader_init ocReader_read kVReader_read dcReader_read pmReader_read cdReader_read ctReader_read ocReader_read_edge_name kVReader_read_edge_name dcReader_read_edge_name pmReader_read_edge_name cdReader_read_edge_name ctReader_read_edge_name ocReader_read_beginning kVReader_read_beginning dcReader_read_beginning pmReader_read_beginning cdReader_read_beginning ctReader_read_beginning ocReader_read_behind kVReader_read_behind dcReader_read_behind pmReader_read_behind cdReader_read_behind ctReader_read_behind ocReader_took kVReader_took dcReader_took pmReader_took cdReader_took ctReader_took : Value}
    {odBracket_init anBracket_init odBracket_take anBracket_take odBracket_whole anBracket_whole odReader_init anReader_init odReader_read anReader_read odReader_read_edge_name anReader_read_edge_name odReader_read_beginning anReader_read_beginning odReader_read_behind anReader_read_behind odReader_took anReader_took : Option Addr}
    {slBracket_init slBracket_take slBracket_whole slReader_init slReader_read slReader_read_edge_name slReader_read_beginning slReader_read_behind slReader_took : Array (Option Value)}
    {fpis_whole fpis_bit fpis_name fpis_formula fp_is_part fpcheck_formula fpleaves_of fphas_edges fpis_plain fptold_names fptold_edges fpnames_of fpedges_of fptold_text fpformula_text fpread_formula fpformula_from fp_law_numbers fp_law_draw fp_law_pool fp_law_leaf_told fp_law_wrapped fp_law_gap fp_law_not_told fp_law_joint_told fp_law_grown fp_law_each_once fp_law_good fp_law_wide_right fp_law_line fp_law_refused fp_law_bad_formulas fp_law_bad_texts fp_law_names_right flaw ARungsError CBadFormula iBadFormula ccBadFormula cdaBadFormula NBadFormula CBadText iBadText ccBadText cdaBadText NBadText : Addr}
    {ocpis_whole kVpis_whole dcpis_whole pmpis_whole cdpis_whole ctpis_whole ocpis_bit kVpis_bit dcpis_bit pmpis_bit cdpis_bit ctpis_bit ocpis_name kVpis_name dcpis_name pmpis_name cdpis_name ctpis_name ocpis_formula kVpis_formula dcpis_formula pmpis_formula cdpis_formula ctpis_formula ocp_is_part kVp_is_part dcp_is_part pmp_is_part cdp_is_part ctp_is_part ocpcheck_formula kVpcheck_formula dcpcheck_formula pmpcheck_formula cdpcheck_formula ctpcheck_formula ocpleaves_of kVpleaves_of dcpleaves_of pmpleaves_of cdpleaves_of ctpleaves_of ocphas_edges kVphas_edges dcphas_edges pmphas_edges cdphas_edges ctphas_edges ocpis_plain kVpis_plain dcpis_plain pmpis_plain cdpis_plain ctpis_plain ocptold_names kVptold_names dcptold_names pmptold_names cdptold_names ctptold_names ocptold_edges kVptold_edges dcptold_edges pmptold_edges cdptold_edges ctptold_edges ocpnames_of kVpnames_of dcpnames_of pmpnames_of cdpnames_of ctpnames_of ocpedges_of kVpedges_of dcpedges_of pmpedges_of cdpedges_of ctpedges_of ocptold_text kVptold_text dcptold_text pmptold_text cdptold_text ctptold_text ocpformula_text kVpformula_text dcpformula_text pmpformula_text cdpformula_text ctpformula_text ocpread_formula kVpread_formula dcpread_formula pmpread_formula cdpread_formula ctpread_formula ocpformula_from kVpformula_from dcpformula_from pmpformula_from cdpformula_from ctpformula_from ocp_law_numbers kVp_law_numbers dcp_law_numbers pmp_law_numbers cdp_law_numbers ctp_law_numbers ocp_law_draw kVp_law_draw dcp_law_draw pmp_law_draw cdp_law_draw ctp_law_draw ocp_law_pool kVp_law_pool dcp_law_pool pmp_law_pool cdp_law_pool ctp_law_pool ocp_law_leaf_told kVp_law_leaf_told dcp_law_leaf_told pmp_law_leaf_told cdp_law_leaf_told ctp_law_leaf_told ocp_law_wrapped kVp_law_wrapped dcp_law_wrapped pmp_law_wrapped cdp_law_wrapped ctp_law_wrapped ocp_law_gap kVp_law_gap dcp_law_gap pmp_law_gap cdp_law_gap ctp_law_gap ocp_law_not_told kVp_law_not_told dcp_law_not_told pmp_law_not_told cdp_law_not_told ctp_law_not_told ocp_law_joint_told kVp_law_joint_told dcp_law_joint_told pmp_law_joint_told cdp_law_joint_told ctp_law_joint_told ocp_law_grown kVp_law_grown dcp_law_grown pmp_law_grown cdp_law_grown ctp_law_grown ocp_law_each_once kVp_law_each_once dcp_law_each_once pmp_law_each_once cdp_law_each_once ctp_law_each_once ocp_law_good kVp_law_good dcp_law_good pmp_law_good cdp_law_good ctp_law_good ocp_law_wide_right kVp_law_wide_right dcp_law_wide_right pmp_law_wide_right cdp_law_wide_right ctp_law_wide_right ocp_law_line kVp_law_line dcp_law_line pmp_law_line cdp_law_line ctp_law_line ocp_law_refused kVp_law_refused dcp_law_refused pmp_law_refused cdp_law_refused ctp_law_refused ocp_law_bad_formulas kVp_law_bad_formulas dcp_law_bad_formulas pmp_law_bad_formulas cdp_law_bad_formulas ctp_law_bad_formulas ocp_law_bad_texts kVp_law_bad_texts dcp_law_bad_texts pmp_law_bad_texts cdp_law_bad_texts ctp_law_bad_texts ocp_law_names_right kVp_law_names_right dcp_law_names_right pmp_law_names_right cdp_law_names_right ctp_law_names_right oclaw kVlaw dclaw pmlaw cdlaw ctlaw oiBadFormula kViBadFormula dciBadFormula pmiBadFormula ctiBadFormula cclBadFormula clBadFormula oiBadText kViBadText dciBadText pmiBadText ctiBadText cclBadText clBadText : Value}
    {odpis_whole anpis_whole odpis_bit anpis_bit odpis_name anpis_name odpis_formula anpis_formula odp_is_part anp_is_part odpcheck_formula anpcheck_formula odpleaves_of anpleaves_of odphas_edges anphas_edges odpis_plain anpis_plain odptold_names anptold_names odptold_edges anptold_edges odpnames_of anpnames_of odpedges_of anpedges_of odptold_text anptold_text odpformula_text anpformula_text odpread_formula anpread_formula odpformula_from anpformula_from odp_law_numbers anp_law_numbers odp_law_draw anp_law_draw odp_law_pool anp_law_pool odp_law_leaf_told anp_law_leaf_told odp_law_wrapped anp_law_wrapped odp_law_gap anp_law_gap odp_law_not_told anp_law_not_told odp_law_joint_told anp_law_joint_told odp_law_grown anp_law_grown odp_law_each_once anp_law_each_once odp_law_good anp_law_good odp_law_wide_right anp_law_wide_right odp_law_line anp_law_line odp_law_refused anp_law_refused odp_law_bad_formulas anp_law_bad_formulas odp_law_bad_texts anp_law_bad_texts odp_law_names_right anp_law_names_right odlaw anlaw diBadFormula aniBadFormula cddBadFormula cldBadFormula ddBadFormula diBadText aniBadText cddBadText cldBadText ddBadText : Option Addr}
    {slpis_whole slpis_bit slpis_name slpis_formula slp_is_part slpcheck_formula slpleaves_of slphas_edges slpis_plain slptold_names slptold_edges slpnames_of slpedges_of slptold_text slpformula_text slpread_formula slpformula_from slp_law_numbers slp_law_draw slp_law_pool slp_law_leaf_told slp_law_wrapped slp_law_gap slp_law_not_told slp_law_joint_told slp_law_grown slp_law_each_once slp_law_good slp_law_wide_right slp_law_line slp_law_refused slp_law_bad_formulas slp_law_bad_texts slp_law_names_right sllaw sliBadFormula ccsBadFormula cslBadFormula sliBadText ccsBadText cslBadText : Array (Option Value)}
    {vsBadFormula vsBadText : Array Value}
    {tfBadFormula tfBadText : Tok}
    {nmBadFormula qBadFormula fileBadFormula nmBadText qBadText fileBadText : Str}
    {bsBadFormula subBadFormula bsBadText subBadText : List Value}
    {snBadFormula snBadText : List Str}
    {abBadFormula abBadText : Bool}
    {colBadFormula colBadText : Option Bool}
    {m0BadFormula m1BadFormula m2BadFormula m3BadFormula m5BadFormula m0BadText m1BadText m2BadText m3BadText m5BadText : Option Value}
    {dTpis_formula : Addr}
    {dDpis_formula : Option Addr}
    {dNpis_formula : Nat}
    {dSpis_formula : Array (Option Value)}
    {dkpis_formula1 : Tok}
    {tCLETTERS : Tok}
    {tCSIGNS : Tok}
    {aCWORDS : Addr}
    {oCWORDS : Option Addr}
    {nCWORDS : Nat}
    {sCWORDS : Array (Option Value)}
    {wWORDS0 wWORDS1 wWORDS2 wWORDS3 wWORDS4 : Tok}
    {aCEDGES : Addr}
    {oCEDGES : Option Addr}
    {nCEDGES : Nat}
    {sCEDGES : Array (Option Value)}
    {wEDGES0 wEDGES1 : Tok}
    {aCJOINTS : Addr}
    {oCJOINTS : Option Addr}
    {nCJOINTS : Nat}
    {sCJOINTS : Array (Option Value)}
    {wJOINTS0 wJOINTS1 : Tok}
    {tCDEEPEST : Tok}
    
    (apis_whole : PySem.W.nsIn K mainGlobals "is_whole" = some (some (.ref fpis_whole)))
    (lpis_whole : K.lookup fpis_whole = some ⟨ocpis_whole, odpis_whole, .func (PySem.W.fnOf "is_whole" "is_whole" (defArgs s_is_whole) (defBody s_is_whole) (defScope s_is_whole) .none kVpis_whole dcpis_whole pmpis_whole anpis_whole cdpis_whole ctpis_whole), slpis_whole⟩)
    (cpis_whole : PySem.W.codeIn K cdpis_whole "is_whole" = true)
    (kpis_whole : PySem.W.keepIn K (.ref fpis_whole) = true)
    (apis_bit : PySem.W.nsIn K mainGlobals "is_bit" = some (some (.ref fpis_bit)))
    (lpis_bit : K.lookup fpis_bit = some ⟨ocpis_bit, odpis_bit, .func (PySem.W.fnOf "is_bit" "is_bit" (defArgs s_is_bit) (defBody s_is_bit) (defScope s_is_bit) .none kVpis_bit dcpis_bit pmpis_bit anpis_bit cdpis_bit ctpis_bit), slpis_bit⟩)
    (cpis_bit : PySem.W.codeIn K cdpis_bit "is_bit" = true)
    (kpis_bit : PySem.W.keepIn K (.ref fpis_bit) = true)
    (apis_name : PySem.W.nsIn K mainGlobals "is_name" = some (some (.ref fpis_name)))
    (lpis_name : K.lookup fpis_name = some ⟨ocpis_name, odpis_name, .func (PySem.W.fnOf "is_name" "is_name" (defArgs s_is_name) (defBody s_is_name) (defScope s_is_name) .none kVpis_name dcpis_name pmpis_name anpis_name cdpis_name ctpis_name), slpis_name⟩)
    (cpis_name : PySem.W.codeIn K cdpis_name "is_name" = true)
    (kpis_name : PySem.W.keepIn K (.ref fpis_name) = true)
    (apis_formula : PySem.W.nsIn K mainGlobals "is_formula" = some (some (.ref fpis_formula)))
    (dtpis_formula : K.lookup dTpis_formula = some ⟨.type "tuple", dDpis_formula, .seq #[.none, .int 40 dkpis_formula1] dNpis_formula, dSpis_formula⟩)
    (lpis_formula : K.lookup fpis_formula = some ⟨ocpis_formula, odpis_formula, .func (PySem.W.fnOf "is_formula" "is_formula" (defArgs s_is_formula) (defBody s_is_formula) (defScope s_is_formula) (.ref dTpis_formula) kVpis_formula dcpis_formula pmpis_formula anpis_formula cdpis_formula ctpis_formula), slpis_formula⟩)
    (cpis_formula : PySem.W.codeIn K cdpis_formula "is_formula" = true)
    (kpis_formula : PySem.W.keepIn K (.ref fpis_formula) = true)
    (ap_is_part : PySem.W.nsIn K mainGlobals "_is_part" = some (some (.ref fp_is_part)))
    (lp_is_part : K.lookup fp_is_part = some ⟨ocp_is_part, odp_is_part, .func (PySem.W.fnOf "_is_part" "_is_part" (defArgs s__is_part) (defBody s__is_part) (defScope s__is_part) .none kVp_is_part dcp_is_part pmp_is_part anp_is_part cdp_is_part ctp_is_part), slp_is_part⟩)
    (cp_is_part : PySem.W.codeIn K cdp_is_part "_is_part" = true)
    (kp_is_part : PySem.W.keepIn K (.ref fp_is_part) = true)
    (apcheck_formula : PySem.W.nsIn K mainGlobals "check_formula" = some (some (.ref fpcheck_formula)))
    (lpcheck_formula : K.lookup fpcheck_formula = some ⟨ocpcheck_formula, odpcheck_formula, .func (PySem.W.fnOf "check_formula" "check_formula" (defArgs s_check_formula) (defBody s_check_formula) (defScope s_check_formula) .none kVpcheck_formula dcpcheck_formula pmpcheck_formula anpcheck_formula cdpcheck_formula ctpcheck_formula), slpcheck_formula⟩)
    (cpcheck_formula : PySem.W.codeIn K cdpcheck_formula "check_formula" = true)
    (kpcheck_formula : PySem.W.keepIn K (.ref fpcheck_formula) = true)
    (apleaves_of : PySem.W.nsIn K mainGlobals "leaves_of" = some (some (.ref fpleaves_of)))
    (lpleaves_of : K.lookup fpleaves_of = some ⟨ocpleaves_of, odpleaves_of, .func (PySem.W.fnOf "leaves_of" "leaves_of" (defArgs s_leaves_of) (defBody s_leaves_of) (defScope s_leaves_of) .none kVpleaves_of dcpleaves_of pmpleaves_of anpleaves_of cdpleaves_of ctpleaves_of), slpleaves_of⟩)
    (cpleaves_of : PySem.W.codeIn K cdpleaves_of "leaves_of" = true)
    (kpleaves_of : PySem.W.keepIn K (.ref fpleaves_of) = true)
    (aphas_edges : PySem.W.nsIn K mainGlobals "has_edges" = some (some (.ref fphas_edges)))
    (lphas_edges : K.lookup fphas_edges = some ⟨ocphas_edges, odphas_edges, .func (PySem.W.fnOf "has_edges" "has_edges" (defArgs s_has_edges) (defBody s_has_edges) (defScope s_has_edges) .none kVphas_edges dcphas_edges pmphas_edges anphas_edges cdphas_edges ctphas_edges), slphas_edges⟩)
    (cphas_edges : PySem.W.codeIn K cdphas_edges "has_edges" = true)
    (kphas_edges : PySem.W.keepIn K (.ref fphas_edges) = true)
    (apis_plain : PySem.W.nsIn K mainGlobals "is_plain" = some (some (.ref fpis_plain)))
    (lpis_plain : K.lookup fpis_plain = some ⟨ocpis_plain, odpis_plain, .func (PySem.W.fnOf "is_plain" "is_plain" (defArgs s_is_plain) (defBody s_is_plain) (defScope s_is_plain) .none kVpis_plain dcpis_plain pmpis_plain anpis_plain cdpis_plain ctpis_plain), slpis_plain⟩)
    (cpis_plain : PySem.W.codeIn K cdpis_plain "is_plain" = true)
    (kpis_plain : PySem.W.keepIn K (.ref fpis_plain) = true)
    (aptold_names : PySem.W.nsIn K mainGlobals "told_names" = some (some (.ref fptold_names)))
    (lptold_names : K.lookup fptold_names = some ⟨ocptold_names, odptold_names, .func (PySem.W.fnOf "told_names" "told_names" (defArgs s_told_names) (defBody s_told_names) (defScope s_told_names) .none kVptold_names dcptold_names pmptold_names anptold_names cdptold_names ctptold_names), slptold_names⟩)
    (cptold_names : PySem.W.codeIn K cdptold_names "told_names" = true)
    (kptold_names : PySem.W.keepIn K (.ref fptold_names) = true)
    (aptold_edges : PySem.W.nsIn K mainGlobals "told_edges" = some (some (.ref fptold_edges)))
    (lptold_edges : K.lookup fptold_edges = some ⟨ocptold_edges, odptold_edges, .func (PySem.W.fnOf "told_edges" "told_edges" (defArgs s_told_edges) (defBody s_told_edges) (defScope s_told_edges) .none kVptold_edges dcptold_edges pmptold_edges anptold_edges cdptold_edges ctptold_edges), slptold_edges⟩)
    (cptold_edges : PySem.W.codeIn K cdptold_edges "told_edges" = true)
    (kptold_edges : PySem.W.keepIn K (.ref fptold_edges) = true)
    (apnames_of : PySem.W.nsIn K mainGlobals "names_of" = some (some (.ref fpnames_of)))
    (lpnames_of : K.lookup fpnames_of = some ⟨ocpnames_of, odpnames_of, .func (PySem.W.fnOf "names_of" "names_of" (defArgs s_names_of) (defBody s_names_of) (defScope s_names_of) .none kVpnames_of dcpnames_of pmpnames_of anpnames_of cdpnames_of ctpnames_of), slpnames_of⟩)
    (cpnames_of : PySem.W.codeIn K cdpnames_of "names_of" = true)
    (kpnames_of : PySem.W.keepIn K (.ref fpnames_of) = true)
    (apedges_of : PySem.W.nsIn K mainGlobals "edges_of" = some (some (.ref fpedges_of)))
    (lpedges_of : K.lookup fpedges_of = some ⟨ocpedges_of, odpedges_of, .func (PySem.W.fnOf "edges_of" "edges_of" (defArgs s_edges_of) (defBody s_edges_of) (defScope s_edges_of) .none kVpedges_of dcpedges_of pmpedges_of anpedges_of cdpedges_of ctpedges_of), slpedges_of⟩)
    (cpedges_of : PySem.W.codeIn K cdpedges_of "edges_of" = true)
    (kpedges_of : PySem.W.keepIn K (.ref fpedges_of) = true)
    (aptold_text : PySem.W.nsIn K mainGlobals "told_text" = some (some (.ref fptold_text)))
    (lptold_text : K.lookup fptold_text = some ⟨ocptold_text, odptold_text, .func (PySem.W.fnOf "told_text" "told_text" (defArgs s_told_text) (defBody s_told_text) (defScope s_told_text) .none kVptold_text dcptold_text pmptold_text anptold_text cdptold_text ctptold_text), slptold_text⟩)
    (cptold_text : PySem.W.codeIn K cdptold_text "told_text" = true)
    (kptold_text : PySem.W.keepIn K (.ref fptold_text) = true)
    (apformula_text : PySem.W.nsIn K mainGlobals "formula_text" = some (some (.ref fpformula_text)))
    (lpformula_text : K.lookup fpformula_text = some ⟨ocpformula_text, odpformula_text, .func (PySem.W.fnOf "formula_text" "formula_text" (defArgs s_formula_text) (defBody s_formula_text) (defScope s_formula_text) .none kVpformula_text dcpformula_text pmpformula_text anpformula_text cdpformula_text ctpformula_text), slpformula_text⟩)
    (cpformula_text : PySem.W.codeIn K cdpformula_text "formula_text" = true)
    (kpformula_text : PySem.W.keepIn K (.ref fpformula_text) = true)
    (apread_formula : PySem.W.nsIn K mainGlobals "read_formula" = some (some (.ref fpread_formula)))
    (lpread_formula : K.lookup fpread_formula = some ⟨ocpread_formula, odpread_formula, .func (PySem.W.fnOf "read_formula" "read_formula" (defArgs s_read_formula) (defBody s_read_formula) (defScope s_read_formula) .none kVpread_formula dcpread_formula pmpread_formula anpread_formula cdpread_formula ctpread_formula), slpread_formula⟩)
    (cpread_formula : PySem.W.codeIn K cdpread_formula "read_formula" = true)
    (kpread_formula : PySem.W.keepIn K (.ref fpread_formula) = true)
    (apformula_from : PySem.W.nsIn K mainGlobals "formula_from" = some (some (.ref fpformula_from)))
    (lpformula_from : K.lookup fpformula_from = some ⟨ocpformula_from, odpformula_from, .func (PySem.W.fnOf "formula_from" "formula_from" (defArgs s_formula_from) (defBody s_formula_from) (defScope s_formula_from) .none kVpformula_from dcpformula_from pmpformula_from anpformula_from cdpformula_from ctpformula_from), slpformula_from⟩)
    (cpformula_from : PySem.W.codeIn K cdpformula_from "formula_from" = true)
    (kpformula_from : PySem.W.keepIn K (.ref fpformula_from) = true)
    (ap_law_numbers : PySem.W.nsIn K mainGlobals "_law_numbers" = some (some (.ref fp_law_numbers)))
    (lp_law_numbers : K.lookup fp_law_numbers = some ⟨ocp_law_numbers, odp_law_numbers, .func (PySem.W.fnOf "_law_numbers" "_law_numbers" (defArgs s__law_numbers) (defBody s__law_numbers) (defScope s__law_numbers) .none kVp_law_numbers dcp_law_numbers pmp_law_numbers anp_law_numbers cdp_law_numbers ctp_law_numbers), slp_law_numbers⟩)
    (cp_law_numbers : PySem.W.codeIn K cdp_law_numbers "_law_numbers" = true)
    (kp_law_numbers : PySem.W.keepIn K (.ref fp_law_numbers) = true)
    (ap_law_draw : PySem.W.nsIn K mainGlobals "_law_draw" = some (some (.ref fp_law_draw)))
    (lp_law_draw : K.lookup fp_law_draw = some ⟨ocp_law_draw, odp_law_draw, .func (PySem.W.fnOf "_law_draw" "_law_draw" (defArgs s__law_draw) (defBody s__law_draw) (defScope s__law_draw) .none kVp_law_draw dcp_law_draw pmp_law_draw anp_law_draw cdp_law_draw ctp_law_draw), slp_law_draw⟩)
    (cp_law_draw : PySem.W.codeIn K cdp_law_draw "_law_draw" = true)
    (kp_law_draw : PySem.W.keepIn K (.ref fp_law_draw) = true)
    (ap_law_pool : PySem.W.nsIn K mainGlobals "_law_pool" = some (some (.ref fp_law_pool)))
    (lp_law_pool : K.lookup fp_law_pool = some ⟨ocp_law_pool, odp_law_pool, .func (PySem.W.fnOf "_law_pool" "_law_pool" (defArgs s__law_pool) (defBody s__law_pool) (defScope s__law_pool) .none kVp_law_pool dcp_law_pool pmp_law_pool anp_law_pool cdp_law_pool ctp_law_pool), slp_law_pool⟩)
    (cp_law_pool : PySem.W.codeIn K cdp_law_pool "_law_pool" = true)
    (kp_law_pool : PySem.W.keepIn K (.ref fp_law_pool) = true)
    (ap_law_leaf_told : PySem.W.nsIn K mainGlobals "_law_leaf_told" = some (some (.ref fp_law_leaf_told)))
    (lp_law_leaf_told : K.lookup fp_law_leaf_told = some ⟨ocp_law_leaf_told, odp_law_leaf_told, .func (PySem.W.fnOf "_law_leaf_told" "_law_leaf_told" (defArgs s__law_leaf_told) (defBody s__law_leaf_told) (defScope s__law_leaf_told) .none kVp_law_leaf_told dcp_law_leaf_told pmp_law_leaf_told anp_law_leaf_told cdp_law_leaf_told ctp_law_leaf_told), slp_law_leaf_told⟩)
    (cp_law_leaf_told : PySem.W.codeIn K cdp_law_leaf_told "_law_leaf_told" = true)
    (kp_law_leaf_told : PySem.W.keepIn K (.ref fp_law_leaf_told) = true)
    (ap_law_wrapped : PySem.W.nsIn K mainGlobals "_law_wrapped" = some (some (.ref fp_law_wrapped)))
    (lp_law_wrapped : K.lookup fp_law_wrapped = some ⟨ocp_law_wrapped, odp_law_wrapped, .func (PySem.W.fnOf "_law_wrapped" "_law_wrapped" (defArgs s__law_wrapped) (defBody s__law_wrapped) (defScope s__law_wrapped) .none kVp_law_wrapped dcp_law_wrapped pmp_law_wrapped anp_law_wrapped cdp_law_wrapped ctp_law_wrapped), slp_law_wrapped⟩)
    (cp_law_wrapped : PySem.W.codeIn K cdp_law_wrapped "_law_wrapped" = true)
    (kp_law_wrapped : PySem.W.keepIn K (.ref fp_law_wrapped) = true)
    (ap_law_gap : PySem.W.nsIn K mainGlobals "_law_gap" = some (some (.ref fp_law_gap)))
    (lp_law_gap : K.lookup fp_law_gap = some ⟨ocp_law_gap, odp_law_gap, .func (PySem.W.fnOf "_law_gap" "_law_gap" (defArgs s__law_gap) (defBody s__law_gap) (defScope s__law_gap) .none kVp_law_gap dcp_law_gap pmp_law_gap anp_law_gap cdp_law_gap ctp_law_gap), slp_law_gap⟩)
    (cp_law_gap : PySem.W.codeIn K cdp_law_gap "_law_gap" = true)
    (kp_law_gap : PySem.W.keepIn K (.ref fp_law_gap) = true)
    (ap_law_not_told : PySem.W.nsIn K mainGlobals "_law_not_told" = some (some (.ref fp_law_not_told)))
    (lp_law_not_told : K.lookup fp_law_not_told = some ⟨ocp_law_not_told, odp_law_not_told, .func (PySem.W.fnOf "_law_not_told" "_law_not_told" (defArgs s__law_not_told) (defBody s__law_not_told) (defScope s__law_not_told) .none kVp_law_not_told dcp_law_not_told pmp_law_not_told anp_law_not_told cdp_law_not_told ctp_law_not_told), slp_law_not_told⟩)
    (cp_law_not_told : PySem.W.codeIn K cdp_law_not_told "_law_not_told" = true)
    (kp_law_not_told : PySem.W.keepIn K (.ref fp_law_not_told) = true)
    (ap_law_joint_told : PySem.W.nsIn K mainGlobals "_law_joint_told" = some (some (.ref fp_law_joint_told)))
    (lp_law_joint_told : K.lookup fp_law_joint_told = some ⟨ocp_law_joint_told, odp_law_joint_told, .func (PySem.W.fnOf "_law_joint_told" "_law_joint_told" (defArgs s__law_joint_told) (defBody s__law_joint_told) (defScope s__law_joint_told) .none kVp_law_joint_told dcp_law_joint_told pmp_law_joint_told anp_law_joint_told cdp_law_joint_told ctp_law_joint_told), slp_law_joint_told⟩)
    (cp_law_joint_told : PySem.W.codeIn K cdp_law_joint_told "_law_joint_told" = true)
    (kp_law_joint_told : PySem.W.keepIn K (.ref fp_law_joint_told) = true)
    (ap_law_grown : PySem.W.nsIn K mainGlobals "_law_grown" = some (some (.ref fp_law_grown)))
    (lp_law_grown : K.lookup fp_law_grown = some ⟨ocp_law_grown, odp_law_grown, .func (PySem.W.fnOf "_law_grown" "_law_grown" (defArgs s__law_grown) (defBody s__law_grown) (defScope s__law_grown) .none kVp_law_grown dcp_law_grown pmp_law_grown anp_law_grown cdp_law_grown ctp_law_grown), slp_law_grown⟩)
    (cp_law_grown : PySem.W.codeIn K cdp_law_grown "_law_grown" = true)
    (kp_law_grown : PySem.W.keepIn K (.ref fp_law_grown) = true)
    (ap_law_each_once : PySem.W.nsIn K mainGlobals "_law_each_once" = some (some (.ref fp_law_each_once)))
    (lp_law_each_once : K.lookup fp_law_each_once = some ⟨ocp_law_each_once, odp_law_each_once, .func (PySem.W.fnOf "_law_each_once" "_law_each_once" (defArgs s__law_each_once) (defBody s__law_each_once) (defScope s__law_each_once) .none kVp_law_each_once dcp_law_each_once pmp_law_each_once anp_law_each_once cdp_law_each_once ctp_law_each_once), slp_law_each_once⟩)
    (cp_law_each_once : PySem.W.codeIn K cdp_law_each_once "_law_each_once" = true)
    (kp_law_each_once : PySem.W.keepIn K (.ref fp_law_each_once) = true)
    (ap_law_good : PySem.W.nsIn K mainGlobals "_law_good" = some (some (.ref fp_law_good)))
    (lp_law_good : K.lookup fp_law_good = some ⟨ocp_law_good, odp_law_good, .func (PySem.W.fnOf "_law_good" "_law_good" (defArgs s__law_good) (defBody s__law_good) (defScope s__law_good) .none kVp_law_good dcp_law_good pmp_law_good anp_law_good cdp_law_good ctp_law_good), slp_law_good⟩)
    (cp_law_good : PySem.W.codeIn K cdp_law_good "_law_good" = true)
    (kp_law_good : PySem.W.keepIn K (.ref fp_law_good) = true)
    (ap_law_wide_right : PySem.W.nsIn K mainGlobals "_law_wide_right" = some (some (.ref fp_law_wide_right)))
    (lp_law_wide_right : K.lookup fp_law_wide_right = some ⟨ocp_law_wide_right, odp_law_wide_right, .func (PySem.W.fnOf "_law_wide_right" "_law_wide_right" (defArgs s__law_wide_right) (defBody s__law_wide_right) (defScope s__law_wide_right) .none kVp_law_wide_right dcp_law_wide_right pmp_law_wide_right anp_law_wide_right cdp_law_wide_right ctp_law_wide_right), slp_law_wide_right⟩)
    (cp_law_wide_right : PySem.W.codeIn K cdp_law_wide_right "_law_wide_right" = true)
    (kp_law_wide_right : PySem.W.keepIn K (.ref fp_law_wide_right) = true)
    (ap_law_line : PySem.W.nsIn K mainGlobals "_law_line" = some (some (.ref fp_law_line)))
    (lp_law_line : K.lookup fp_law_line = some ⟨ocp_law_line, odp_law_line, .func (PySem.W.fnOf "_law_line" "_law_line" (defArgs s__law_line) (defBody s__law_line) (defScope s__law_line) .none kVp_law_line dcp_law_line pmp_law_line anp_law_line cdp_law_line ctp_law_line), slp_law_line⟩)
    (cp_law_line : PySem.W.codeIn K cdp_law_line "_law_line" = true)
    (kp_law_line : PySem.W.keepIn K (.ref fp_law_line) = true)
    (ap_law_refused : PySem.W.nsIn K mainGlobals "_law_refused" = some (some (.ref fp_law_refused)))
    (lp_law_refused : K.lookup fp_law_refused = some ⟨ocp_law_refused, odp_law_refused, .func (PySem.W.fnOf "_law_refused" "_law_refused" (defArgs s__law_refused) (defBody s__law_refused) (defScope s__law_refused) .none kVp_law_refused dcp_law_refused pmp_law_refused anp_law_refused cdp_law_refused ctp_law_refused), slp_law_refused⟩)
    (cp_law_refused : PySem.W.codeIn K cdp_law_refused "_law_refused" = true)
    (kp_law_refused : PySem.W.keepIn K (.ref fp_law_refused) = true)
    (ap_law_bad_formulas : PySem.W.nsIn K mainGlobals "_law_bad_formulas" = some (some (.ref fp_law_bad_formulas)))
    (lp_law_bad_formulas : K.lookup fp_law_bad_formulas = some ⟨ocp_law_bad_formulas, odp_law_bad_formulas, .func (PySem.W.fnOf "_law_bad_formulas" "_law_bad_formulas" (defArgs s__law_bad_formulas) (defBody s__law_bad_formulas) (defScope s__law_bad_formulas) .none kVp_law_bad_formulas dcp_law_bad_formulas pmp_law_bad_formulas anp_law_bad_formulas cdp_law_bad_formulas ctp_law_bad_formulas), slp_law_bad_formulas⟩)
    (cp_law_bad_formulas : PySem.W.codeIn K cdp_law_bad_formulas "_law_bad_formulas" = true)
    (kp_law_bad_formulas : PySem.W.keepIn K (.ref fp_law_bad_formulas) = true)
    (ap_law_bad_texts : PySem.W.nsIn K mainGlobals "_law_bad_texts" = some (some (.ref fp_law_bad_texts)))
    (lp_law_bad_texts : K.lookup fp_law_bad_texts = some ⟨ocp_law_bad_texts, odp_law_bad_texts, .func (PySem.W.fnOf "_law_bad_texts" "_law_bad_texts" (defArgs s__law_bad_texts) (defBody s__law_bad_texts) (defScope s__law_bad_texts) .none kVp_law_bad_texts dcp_law_bad_texts pmp_law_bad_texts anp_law_bad_texts cdp_law_bad_texts ctp_law_bad_texts), slp_law_bad_texts⟩)
    (cp_law_bad_texts : PySem.W.codeIn K cdp_law_bad_texts "_law_bad_texts" = true)
    (kp_law_bad_texts : PySem.W.keepIn K (.ref fp_law_bad_texts) = true)
    (ap_law_names_right : PySem.W.nsIn K mainGlobals "_law_names_right" = some (some (.ref fp_law_names_right)))
    (lp_law_names_right : K.lookup fp_law_names_right = some ⟨ocp_law_names_right, odp_law_names_right, .func (PySem.W.fnOf "_law_names_right" "_law_names_right" (defArgs s__law_names_right) (defBody s__law_names_right) (defScope s__law_names_right) .none kVp_law_names_right dcp_law_names_right pmp_law_names_right anp_law_names_right cdp_law_names_right ctp_law_names_right), slp_law_names_right⟩)
    (cp_law_names_right : PySem.W.codeIn K cdp_law_names_right "_law_names_right" = true)
    (kp_law_names_right : PySem.W.keepIn K (.ref fp_law_names_right) = true)
    (alaw : PySem.W.nsIn K mainGlobals "law" = some (some (.ref flaw)))
    (llaw : K.lookup flaw = some ⟨oclaw, odlaw, .func (PySem.W.fnOf "law" "law" (defArgs s_law) (defBody s_law) (defScope s_law) .none kVlaw dclaw pmlaw anlaw cdlaw ctlaw), sllaw⟩)
    (claw : PySem.W.codeIn K cdlaw "law" = true)
    (klaw : PySem.W.keepIn K (.ref flaw) = true)
    (zall : PySem.W.nsIn K mainGlobals "all" = some none)
    (zany : PySem.W.nsIn K mainGlobals "any" = some none)
    (zbool : PySem.W.nsIn K mainGlobals "bool" = some none)
    (zint : PySem.W.nsIn K mainGlobals "int" = some none)
    (zisinstance : PySem.W.nsIn K mainGlobals "isinstance" = some none)
    (zlen : PySem.W.nsIn K mainGlobals "len" = some none)
    (zlist : PySem.W.nsIn K mainGlobals "list" = some none)
    (zmax : PySem.W.nsIn K mainGlobals "max" = some none)
    (zmin : PySem.W.nsIn K mainGlobals "min" = some none)
    (zrange : PySem.W.nsIn K mainGlobals "range" = some none)
    (zrepr : PySem.W.nsIn K mainGlobals "repr" = some none)
    (zsorted : PySem.W.nsIn K mainGlobals "sorted" = some none)
    (zstr : PySem.W.nsIn K mainGlobals "str" = some none)
    (zsuper : PySem.W.nsIn K mainGlobals "super" = some none)
    (ztuple : PySem.W.nsIn K mainGlobals "tuple" = some none)
    (vCLETTERS : PySem.W.nsIn K mainGlobals "LETTERS" = some (some (.str ("abcdefghijklmnopqrstuvwxyz" : Str) tCLETTERS)))
    (vCSIGNS : PySem.W.nsIn K mainGlobals "SIGNS" = some (some (.str ("abcdefghijklmnopqrstuvwxyz0123456789." : Str) tCSIGNS)))
    (vCWORDS : PySem.W.nsIn K mainGlobals "WORDS" = some (some (.ref aCWORDS)))
    (xCWORDS : K.lookup aCWORDS = some ⟨.type "tuple", oCWORDS, .seq #[.str ("not" : Str) wWORDS0, .str ("and" : Str) wWORDS1, .str ("or" : Str) wWORDS2, .str ("rise" : Str) wWORDS3, .str ("fall" : Str) wWORDS4] nCWORDS, sCWORDS⟩)
    (vCEDGES : PySem.W.nsIn K mainGlobals "EDGES" = some (some (.ref aCEDGES)))
    (xCEDGES : K.lookup aCEDGES = some ⟨.type "tuple", oCEDGES, .seq #[.str ("rise" : Str) wEDGES0, .str ("fall" : Str) wEDGES1] nCEDGES, sCEDGES⟩)
    (vCJOINTS : PySem.W.nsIn K mainGlobals "JOINTS" = some (some (.ref aCJOINTS)))
    (xCJOINTS : K.lookup aCJOINTS = some ⟨.type "tuple", oCJOINTS, .seq #[.str ("and" : Str) wJOINTS0, .str ("or" : Str) wJOINTS1] nCJOINTS, sCJOINTS⟩)
    (vCDEEPEST : PySem.W.nsIn K mainGlobals "DEEPEST" = some (some (.int 40 tCDEEPEST)))
    (gARungsError : PySem.W.nsIn K mainGlobals "RungsError" = some (some (.ref ARungsError)))
    (gxBadFormula : PySem.W.nsIn K mainGlobals "BadFormula" = some (some (.ref CBadFormula)))
    (xlBadFormula : K.lookup CBadFormula = some (excClassObj nmBadFormula qBadFormula CBadFormula NBadFormula bsBadFormula [.ref ARungsError, .type "ValueError", .type "Exception", .type "BaseException", .type "object"] true snBadFormula subBadFormula abBadFormula colBadFormula ddBadFormula m0BadFormula m1BadFormula m2BadFormula m3BadFormula m5BadFormula "ValueError.__new__"))
    (saBadFormula : PySem.W.findIn K (.ref CBadFormula) "__setattr__" = some (some (.builtin "object.__setattr__")))
    (gaBadFormula : PySem.W.findIn K (.ref CBadFormula) "__getattribute__" = some (some (.builtin "BaseException.__getattribute__")))
    (ggBadFormula : PySem.W.findIn K (.ref CBadFormula) "__getattr__" = some none)
    (ebBadFormula : PySem.W.subIn K (.ref CBadFormula) (.type "BaseException") = some true)
    (tyBadFormula : PySem.W.typeIn K (.ref CBadFormula) = some (.type "type"))
    (kcBadFormula : PySem.W.keepIn K (.ref CBadFormula) = true)
    (hdBadFormula : PySem.W.hasDictIn K CBadFormula = true)
    (icBadFormula : PySem.W.isClsIn K CBadFormula = true)
    (inBadFormula : PySem.W.findIn K (.ref CBadFormula) "__init__" = some (some (.ref iBadFormula)))
    (tiBadFormula : PySem.W.typeIn K (.ref iBadFormula) = some (.type "function"))
    (liBadFormula : K.lookup iBadFormula = some ⟨oiBadFormula, diBadFormula, .func (PySem.W.fnX "__init__" "BadFormula.__init__" (defArgs s_BadFormula_init) (defBody s_BadFormula_init) (defScope s_BadFormula_init) [("__class__", ccBadFormula)] .none kViBadFormula dciBadFormula pmiBadFormula aniBadFormula (.ref cdaBadFormula) ctiBadFormula), sliBadFormula⟩)
    (ciBadFormula : PySem.W.codeIn K (.ref cdaBadFormula) "BadFormula.__init__" = true)
    (ldBadFormula : K.lookup cdaBadFormula = some ⟨cclBadFormula, cddBadFormula, .fields vsBadFormula, ccsBadFormula⟩)
    (vfBadFormula : vsBadFormula[2]? = some (.str fileBadFormula tfBadFormula))
    (hfBadFormula : ((P.main.file : Str) == fileBadFormula) = true)
    (lcBadFormula : K.lookup ccBadFormula = some ⟨clBadFormula, cldBadFormula, .cell (some (.ref CBadFormula)), cslBadFormula⟩)
    (suBadFormula : PySem.W.ks_superIn K CBadFormula CBadFormula "__init__" = some (some (.builtin "ValueError.__init__")))
    (veBadFormula : PySem.W.subIn K (.ref CBadFormula) (.type "ValueError") = some true)
    (mrBadFormula : PySem.W.mroIn K CBadFormula (.ref CBadFormula) = some true)
    (eiaBadFormula : PySem.W.findIn K (.ref CBadFormula) "__class__" = some (some (.builtin "object.__class__")))
    (einBadFormula : PySem.W.specialIn K (.builtin "object.__class__") "__get__" = some (some (.builtin "getset_descriptor.__get__")))
    (eitBadFormula : PySem.W.takesIn K (.builtin "object.__class__") = some true)
    (eimBadFormula : PySem.W.mroIn K CBadFormula (.type "object") = some true)
    (gxBadText : PySem.W.nsIn K mainGlobals "BadText" = some (some (.ref CBadText)))
    (xlBadText : K.lookup CBadText = some (excClassObj nmBadText qBadText CBadText NBadText bsBadText [.ref ARungsError, .type "ValueError", .type "Exception", .type "BaseException", .type "object"] true snBadText subBadText abBadText colBadText ddBadText m0BadText m1BadText m2BadText m3BadText m5BadText "ValueError.__new__"))
    (saBadText : PySem.W.findIn K (.ref CBadText) "__setattr__" = some (some (.builtin "object.__setattr__")))
    (gaBadText : PySem.W.findIn K (.ref CBadText) "__getattribute__" = some (some (.builtin "BaseException.__getattribute__")))
    (ggBadText : PySem.W.findIn K (.ref CBadText) "__getattr__" = some none)
    (ebBadText : PySem.W.subIn K (.ref CBadText) (.type "BaseException") = some true)
    (tyBadText : PySem.W.typeIn K (.ref CBadText) = some (.type "type"))
    (kcBadText : PySem.W.keepIn K (.ref CBadText) = true)
    (hdBadText : PySem.W.hasDictIn K CBadText = true)
    (icBadText : PySem.W.isClsIn K CBadText = true)
    (inBadText : PySem.W.findIn K (.ref CBadText) "__init__" = some (some (.ref iBadText)))
    (tiBadText : PySem.W.typeIn K (.ref iBadText) = some (.type "function"))
    (liBadText : K.lookup iBadText = some ⟨oiBadText, diBadText, .func (PySem.W.fnX "__init__" "BadText.__init__" (defArgs s_BadText_init) (defBody s_BadText_init) (defScope s_BadText_init) [("__class__", ccBadText)] .none kViBadText dciBadText pmiBadText aniBadText (.ref cdaBadText) ctiBadText), sliBadText⟩)
    (ciBadText : PySem.W.codeIn K (.ref cdaBadText) "BadText.__init__" = true)
    (ldBadText : K.lookup cdaBadText = some ⟨cclBadText, cddBadText, .fields vsBadText, ccsBadText⟩)
    (vfBadText : vsBadText[2]? = some (.str fileBadText tfBadText))
    (hfBadText : ((P.main.file : Str) == fileBadText) = true)
    (lcBadText : K.lookup ccBadText = some ⟨clBadText, cldBadText, .cell (some (.ref CBadText)), cslBadText⟩)
    (suBadText : PySem.W.ks_superIn K CBadText CBadText "__init__" = some (some (.builtin "ValueError.__init__")))
    (veBadText : PySem.W.subIn K (.ref CBadText) (.type "ValueError") = some true)
    (mrBadText : PySem.W.mroIn K CBadText (.ref CBadText) = some true)
    (nlineBadText : PySem.W.findIn K (.ref CBadText) "line" = some none)
    (eaRungsError : PySem.W.subIn K (.ref ARungsError) (.type "BaseException") = some true)
    (iaRungsError : PySem.W.isClsIn K ARungsError = true)
    (yaRungsError : PySem.W.typeIn K (.ref ARungsError) = some (.type "type"))
    (saBadFormulaRungsError : PySem.W.subIn K (.ref CBadFormula) (.ref ARungsError) = some true)
    (saBadTextRungsError : PySem.W.subIn K (.ref CBadText) (.ref ARungsError) = some true)
    (kgBracket : PySem.W.nsIn K mainGlobals "Bracket" = some (some (.ref KBracket)))
    (kpgBracket : PySem.W.plainGet K KBracket Str.empty = true)
    (khdBracket : PySem.W.hasDictIn K KBracket = true)
    (kpoBracket : PySem.W.plainOver K KBracket = true)
    (ksaBracket : PySem.W.findIn K (.ref KBracket) "__setattr__" = some (some (.builtin "object.__setattr__")))
    (kmkBracket : PySem.W.makesIn K KBracket = true)
    (kkcBracket : PySem.W.keepIn K (.ref KBracket) = true)
    (knBracketparts : PySem.W.findIn K (.ref KBracket) "parts" = some none)
    (knBracketdepth : PySem.W.findIn K (.ref KBracket) "depth" = some none)
    (knBracketjoint : PySem.W.findIn K (.ref KBracket) "joint" = some none)
    (knBracketnots : PySem.W.findIn K (.ref KBracket) "nots" = some none)
    (kgReader : PySem.W.nsIn K mainGlobals "Reader" = some (some (.ref KReader)))
    (kpgReader : PySem.W.plainGet K KReader Str.empty = true)
    (khdReader : PySem.W.hasDictIn K KReader = true)
    (kpoReader : PySem.W.plainOver K KReader = true)
    (ksaReader : PySem.W.findIn K (.ref KReader) "__setattr__" = some (some (.builtin "object.__setattr__")))
    (kmkReader : PySem.W.makesIn K KReader = true)
    (kkcReader : PySem.W.keepIn K (.ref KReader) = true)
    (knReaderbrackets : PySem.W.findIn K (.ref KReader) "brackets" = some none)
    (knReaderedge : PySem.W.findIn K (.ref KReader) "edge" = some none)
    (knReaderwants : PySem.W.findIn K (.ref KReader) "wants" = some none)
    (maBracket_init : PySem.W.findIn K (.ref KBracket) "__init__" = some (some (.ref gBracket_init)))
    (miBracket_init : PySem.W.isFn K (.ref gBracket_init) = true)
    (mlBracket_init : K.lookup gBracket_init = some ⟨ocBracket_init, odBracket_init, .func (PySem.W.fnOf "__init__" "Bracket.__init__" (defArgs s_Bracket_init) (defBody s_Bracket_init) (defScope s_Bracket_init) .none kVBracket_init dcBracket_init pmBracket_init anBracket_init cdBracket_init ctBracket_init), slBracket_init⟩)
    (mcBracket_init : PySem.W.codeIn K cdBracket_init "Bracket.__init__" = true)
    (mkBracket_init : PySem.W.keepIn K (.ref gBracket_init) = true)
    (maBracket_take : PySem.W.findIn K (.ref KBracket) "take" = some (some (.ref gBracket_take)))
    (miBracket_take : PySem.W.isFn K (.ref gBracket_take) = true)
    (mlBracket_take : K.lookup gBracket_take = some ⟨ocBracket_take, odBracket_take, .func (PySem.W.fnOf "take" "Bracket.take" (defArgs s_Bracket_take) (defBody s_Bracket_take) (defScope s_Bracket_take) .none kVBracket_take dcBracket_take pmBracket_take anBracket_take cdBracket_take ctBracket_take), slBracket_take⟩)
    (mcBracket_take : PySem.W.codeIn K cdBracket_take "Bracket.take" = true)
    (mkBracket_take : PySem.W.keepIn K (.ref gBracket_take) = true)
    (maBracket_whole : PySem.W.findIn K (.ref KBracket) "whole" = some (some (.ref gBracket_whole)))
    (miBracket_whole : PySem.W.isFn K (.ref gBracket_whole) = true)
    (mlBracket_whole : K.lookup gBracket_whole = some ⟨ocBracket_whole, odBracket_whole, .func (PySem.W.fnOf "whole" "Bracket.whole" (defArgs s_Bracket_whole) (defBody s_Bracket_whole) (defScope s_Bracket_whole) .none kVBracket_whole dcBracket_whole pmBracket_whole anBracket_whole cdBracket_whole ctBracket_whole), slBracket_whole⟩)
    (mcBracket_whole : PySem.W.codeIn K cdBracket_whole "Bracket.whole" = true)
    (mkBracket_whole : PySem.W.keepIn K (.ref gBracket_whole) = true)
    (maReader_init : PySem.W.findIn K (.ref KReader) "__init__" = some (some (.ref gReader_init)))
    (miReader_init : PySem.W.isFn K (.ref gReader_init) = true)
    (mlReader_init : K.lookup gReader_init = some ⟨ocReader_init, odReader_init, .func (PySem.W.fnOf "__init__" "Reader.__init__" (defArgs s_Reader_init) (defBody s_Reader_init) (defScope s_Reader_init) .none kVReader_init dcReader_init pmReader_init anReader_init cdReader_init ctReader_init), slReader_init⟩)
    (mcReader_init : PySem.W.codeIn K cdReader_init "Reader.__init__" = true)
    (mkReader_init : PySem.W.keepIn K (.ref gReader_init) = true)
    (maReader_read : PySem.W.findIn K (.ref KReader) "read" = some (some (.ref gReader_read)))
    (miReader_read : PySem.W.isFn K (.ref gReader_read) = true)
    (mlReader_read : K.lookup gReader_read = some ⟨ocReader_read, odReader_read, .func (PySem.W.fnOf "read" "Reader.read" (defArgs s_Reader_read) (defBody s_Reader_read) (defScope s_Reader_read) .none kVReader_read dcReader_read pmReader_read anReader_read cdReader_read ctReader_read), slReader_read⟩)
    (mcReader_read : PySem.W.codeIn K cdReader_read "Reader.read" = true)
    (mkReader_read : PySem.W.keepIn K (.ref gReader_read) = true)
    (maReader_read_edge_name : PySem.W.findIn K (.ref KReader) "read_edge_name" = some (some (.ref gReader_read_edge_name)))
    (miReader_read_edge_name : PySem.W.isFn K (.ref gReader_read_edge_name) = true)
    (mlReader_read_edge_name : K.lookup gReader_read_edge_name = some ⟨ocReader_read_edge_name, odReader_read_edge_name, .func (PySem.W.fnOf "read_edge_name" "Reader.read_edge_name" (defArgs s_Reader_read_edge_name) (defBody s_Reader_read_edge_name) (defScope s_Reader_read_edge_name) .none kVReader_read_edge_name dcReader_read_edge_name pmReader_read_edge_name anReader_read_edge_name cdReader_read_edge_name ctReader_read_edge_name), slReader_read_edge_name⟩)
    (mcReader_read_edge_name : PySem.W.codeIn K cdReader_read_edge_name "Reader.read_edge_name" = true)
    (mkReader_read_edge_name : PySem.W.keepIn K (.ref gReader_read_edge_name) = true)
    (maReader_read_beginning : PySem.W.findIn K (.ref KReader) "read_beginning" = some (some (.ref gReader_read_beginning)))
    (miReader_read_beginning : PySem.W.isFn K (.ref gReader_read_beginning) = true)
    (mlReader_read_beginning : K.lookup gReader_read_beginning = some ⟨ocReader_read_beginning, odReader_read_beginning, .func (PySem.W.fnOf "read_beginning" "Reader.read_beginning" (defArgs s_Reader_read_beginning) (defBody s_Reader_read_beginning) (defScope s_Reader_read_beginning) .none kVReader_read_beginning dcReader_read_beginning pmReader_read_beginning anReader_read_beginning cdReader_read_beginning ctReader_read_beginning), slReader_read_beginning⟩)
    (mcReader_read_beginning : PySem.W.codeIn K cdReader_read_beginning "Reader.read_beginning" = true)
    (mkReader_read_beginning : PySem.W.keepIn K (.ref gReader_read_beginning) = true)
    (maReader_read_behind : PySem.W.findIn K (.ref KReader) "read_behind" = some (some (.ref gReader_read_behind)))
    (miReader_read_behind : PySem.W.isFn K (.ref gReader_read_behind) = true)
    (mlReader_read_behind : K.lookup gReader_read_behind = some ⟨ocReader_read_behind, odReader_read_behind, .func (PySem.W.fnOf "read_behind" "Reader.read_behind" (defArgs s_Reader_read_behind) (defBody s_Reader_read_behind) (defScope s_Reader_read_behind) .none kVReader_read_behind dcReader_read_behind pmReader_read_behind anReader_read_behind cdReader_read_behind ctReader_read_behind), slReader_read_behind⟩)
    (mcReader_read_behind : PySem.W.codeIn K cdReader_read_behind "Reader.read_behind" = true)
    (mkReader_read_behind : PySem.W.keepIn K (.ref gReader_read_behind) = true)
    (maReader_took : PySem.W.findIn K (.ref KReader) "took" = some (some (.ref gReader_took)))
    (miReader_took : PySem.W.isFn K (.ref gReader_took) = true)
    (mlReader_took : K.lookup gReader_took = some ⟨ocReader_took, odReader_took, .func (PySem.W.fnOf "took" "Reader.took" (defArgs s_Reader_took) (defBody s_Reader_took) (defScope s_Reader_took) .none kVReader_took dcReader_took pmReader_took anReader_took cdReader_took ctReader_took), slReader_took⟩)
    (mcReader_took : PySem.W.codeIn K cdReader_took "Reader.took" = true)
    (mkReader_took : PySem.W.keepIn K (.ref gReader_took) = true)
    (opq : PySem.W.nsIn K cStatics "thirdparty.any" = some none)
    (sBadFormulaBadFormula : PySem.W.subIn K (.ref CBadFormula) (.ref CBadFormula) = some true)
    (sBadFormulaBadText : PySem.W.subIn K (.ref CBadFormula) (.ref CBadText) = some false)
    (sBadTextBadFormula : PySem.W.subIn K (.ref CBadText) (.ref CBadFormula) = some false)
    (sBadTextBadText : PySem.W.subIn K (.ref CBadText) (.ref CBadText) = some true)
    (top : (P.main.scope.names.lookup ("super" : Str)).isSome = false) :
    ∃ fd : FuncData, (∀ (s : Shared) (v : Value), BindsTo s fd ⟨[v], []⟩ [("script", v)]) ∧ ∀ base : Heap, K.In base → base.Ns mainGlobals mg → RG.FnG P w K mg base (CX P w) 70 fa fd ["script"] (spLaw K) := by
  have e := hfa.symm.trans (PySem.W.mg_of X G alaw)
  cases e
  have Fpis_whole := fun_mk (st := s_is_whole) lpis_whole cpis_whole kpis_whole
  have bpis_whole := Fpis_whole.binds (ps := ["value", "least", "most"]) fun _ _ _ _ _ _ us hl => match us, hl with | [_, _, _], _ => rfl
  have Fpis_bit := fun_mk (st := s_is_bit) lpis_bit cpis_bit kpis_bit
  have bpis_bit := Fpis_bit.binds (ps := ["value"]) fun _ _ _ _ _ _ us hl => match us, hl with | [_], _ => rfl
  have Fpis_name := fun_mk (st := s_is_name) lpis_name cpis_name kpis_name
  have bpis_name := Fpis_name.binds (ps := ["value"]) fun _ _ _ _ _ _ us hl => match us, hl with | [_], _ => rfl
  have Fpis_formula : FunD K "is_formula" "is_formula" (defArgs s_is_formula) (defBody s_is_formula) (defScope s_is_formula) [.non, .int 40] [] fpis_formula _ := ⟨⟨_, _, _, _, _, _, _, _, _, _, rfl, lpis_formula, cpis_formula, .inr ⟨by simp, _, _, [Value.none, .int 40 dkpis_formula1], _, rfl, dtpis_formula, rfl, (.cons rfl (.cons ⟨_, rfl⟩ .nil))⟩, .inl rfl⟩, kpis_formula⟩
  obtain ⟨dspis_formula, vpis_formula, bpis_formula⟩ := Fpis_formula.binds1 (ps := ["value", "names", "depth"]) 1 0 (by simp) rfl fun _ _ _ _ _ _ _ us its h1 h2 => match us, its, h1, h2 with | [_], [_, _], _, _ => ⟨_, rfl, rfl⟩
  have Fp_is_part := fun_mk (st := s__is_part) lp_is_part cp_is_part kp_is_part
  have bp_is_part := Fp_is_part.binds (ps := ["part", "names"]) fun _ _ _ _ _ _ us hl => match us, hl with | [_, _], _ => rfl
  have Fpcheck_formula := fun_mk (st := s_check_formula) lpcheck_formula cpcheck_formula kpcheck_formula
  have bpcheck_formula := Fpcheck_formula.binds (ps := ["formula"]) fun _ _ _ _ _ _ us hl => match us, hl with | [_], _ => rfl
  have Fpleaves_of := fun_mk (st := s_leaves_of) lpleaves_of cpleaves_of kpleaves_of
  have bpleaves_of := Fpleaves_of.binds (ps := ["formula"]) fun _ _ _ _ _ _ us hl => match us, hl with | [_], _ => rfl
  have Fphas_edges := fun_mk (st := s_has_edges) lphas_edges cphas_edges kphas_edges
  have bphas_edges := Fphas_edges.binds (ps := ["formula"]) fun _ _ _ _ _ _ us hl => match us, hl with | [_], _ => rfl
  have Fpis_plain := fun_mk (st := s_is_plain) lpis_plain cpis_plain kpis_plain
  have bpis_plain := Fpis_plain.binds (ps := ["formula"]) fun _ _ _ _ _ _ us hl => match us, hl with | [_], _ => rfl
  have Fptold_names := fun_mk (st := s_told_names) lptold_names cptold_names kptold_names
  have bptold_names := Fptold_names.binds (ps := ["formula"]) fun _ _ _ _ _ _ us hl => match us, hl with | [_], _ => rfl
  have Fptold_edges := fun_mk (st := s_told_edges) lptold_edges cptold_edges kptold_edges
  have bptold_edges := Fptold_edges.binds (ps := ["formula"]) fun _ _ _ _ _ _ us hl => match us, hl with | [_], _ => rfl
  have Fpnames_of := fun_mk (st := s_names_of) lpnames_of cpnames_of kpnames_of
  have bpnames_of := Fpnames_of.binds (ps := ["formula"]) fun _ _ _ _ _ _ us hl => match us, hl with | [_], _ => rfl
  have Fpedges_of := fun_mk (st := s_edges_of) lpedges_of cpedges_of kpedges_of
  have bpedges_of := Fpedges_of.binds (ps := ["formula"]) fun _ _ _ _ _ _ us hl => match us, hl with | [_], _ => rfl
  have Fptold_text := fun_mk (st := s_told_text) lptold_text cptold_text kptold_text
  have bptold_text := Fptold_text.binds (ps := ["formula"]) fun _ _ _ _ _ _ us hl => match us, hl with | [_], _ => rfl
  have Fpformula_text := fun_mk (st := s_formula_text) lpformula_text cpformula_text kpformula_text
  have bpformula_text := Fpformula_text.binds (ps := ["formula"]) fun _ _ _ _ _ _ us hl => match us, hl with | [_], _ => rfl
  have Fpread_formula := fun_mk (st := s_read_formula) lpread_formula cpread_formula kpread_formula
  have bpread_formula := Fpread_formula.binds (ps := ["text"]) fun _ _ _ _ _ _ us hl => match us, hl with | [_], _ => rfl
  have Fpformula_from := fun_mk (st := s_formula_from) lpformula_from cpformula_from kpformula_from
  have bpformula_from := Fpformula_from.binds (ps := ["text"]) fun _ _ _ _ _ _ us hl => match us, hl with | [_], _ => rfl
  have Fp_law_numbers := fun_mk (st := s__law_numbers) lp_law_numbers cp_law_numbers kp_law_numbers
  have bp_law_numbers := Fp_law_numbers.binds (ps := ["script"]) fun _ _ _ _ _ _ us hl => match us, hl with | [_], _ => rfl
  have Fp_law_draw := fun_mk (st := s__law_draw) lp_law_draw cp_law_draw kp_law_draw
  have bp_law_draw := Fp_law_draw.binds (ps := ["numbers", "many"]) fun _ _ _ _ _ _ us hl => match us, hl with | [_, _], _ => rfl
  have Fp_law_pool := fun_mk (st := s__law_pool) lp_law_pool cp_law_pool kp_law_pool
  have bp_law_pool := Fp_law_pool.binds (ps := ["numbers", "total"]) fun _ _ _ _ _ _ us hl => match us, hl with | [_, _], _ => rfl
  have Fp_law_leaf_told := fun_mk (st := s__law_leaf_told) lp_law_leaf_told cp_law_leaf_told kp_law_leaf_told
  have bp_law_leaf_told := Fp_law_leaf_told.binds (ps := ["numbers", "names"]) fun _ _ _ _ _ _ us hl => match us, hl with | [_, _], _ => rfl
  have Fp_law_wrapped := fun_mk (st := s__law_wrapped) lp_law_wrapped cp_law_wrapped kp_law_wrapped
  have bp_law_wrapped := Fp_law_wrapped.binds (ps := ["numbers", "loose"]) fun _ _ _ _ _ _ us hl => match us, hl with | [_, _], _ => rfl
  have Fp_law_gap := fun_mk (st := s__law_gap) lp_law_gap cp_law_gap kp_law_gap
  have bp_law_gap := Fp_law_gap.binds (ps := ["numbers", "touching"]) fun _ _ _ _ _ _ us hl => match us, hl with | [_, _], _ => rfl
  have Fp_law_not_told := fun_mk (st := s__law_not_told) lp_law_not_told cp_law_not_told kp_law_not_told
  have bp_law_not_told := Fp_law_not_told.binds (ps := ["numbers", "part", "bare"]) fun _ _ _ _ _ _ us hl => match us, hl with | [_, _, _], _ => rfl
  have Fp_law_joint_told := fun_mk (st := s__law_joint_told) lp_law_joint_told cp_law_joint_told kp_law_joint_told
  have bp_law_joint_told := Fp_law_joint_told.binds (ps := ["numbers", "parts"]) fun _ _ _ _ _ _ us hl => match us, hl with | [_, _], _ => rfl
  have Fp_law_grown := fun_mk (st := s__law_grown) lp_law_grown cp_law_grown kp_law_grown
  have bp_law_grown := Fp_law_grown.binds (ps := ["numbers", "names"]) fun _ _ _ _ _ _ us hl => match us, hl with | [_, _], _ => rfl
  have Fp_law_each_once := fun_mk (st := s__law_each_once) lp_law_each_once cp_law_each_once kp_law_each_once
  have bp_law_each_once := Fp_law_each_once.binds (ps := ["names"]) fun _ _ _ _ _ _ us hl => match us, hl with | [_], _ => rfl
  have Fp_law_good := fun_mk (st := s__law_good) lp_law_good cp_law_good kp_law_good
  have bp_law_good := Fp_law_good.binds (ps := ["part"]) fun _ _ _ _ _ _ us hl => match us, hl with | [_], _ => rfl
  have Fp_law_wide_right := fun_mk (st := s__law_wide_right) lp_law_wide_right cp_law_wide_right kp_law_wide_right
  have bp_law_wide_right := Fp_law_wide_right.binds (ps := ["word"]) fun _ _ _ _ _ _ us hl => match us, hl with | [_], _ => rfl
  have Fp_law_line := fun_mk (st := s__law_line) lp_law_line cp_law_line kp_law_line
  have bp_law_line := Fp_law_line.binds (ps := ["text"]) fun _ _ _ _ _ _ us hl => match us, hl with | [_], _ => rfl
  have Fp_law_refused := fun_mk (st := s__law_refused) lp_law_refused cp_law_refused kp_law_refused
  have bp_law_refused := Fp_law_refused.binds (ps := ["formula"]) fun _ _ _ _ _ _ us hl => match us, hl with | [_], _ => rfl
  have Fp_law_bad_formulas := fun_mk (st := s__law_bad_formulas) lp_law_bad_formulas cp_law_bad_formulas kp_law_bad_formulas
  have bp_law_bad_formulas := Fp_law_bad_formulas.binds (ps := ["leaf", "name"]) fun _ _ _ _ _ _ us hl => match us, hl with | [_, _], _ => rfl
  have Fp_law_bad_texts := fun_mk (st := s__law_bad_texts) lp_law_bad_texts cp_law_bad_texts kp_law_bad_texts
  have bp_law_bad_texts := Fp_law_bad_texts.binds (ps := ["text", "other", "name"]) fun _ _ _ _ _ _ us hl => match us, hl with | [_, _, _], _ => rfl
  have Fp_law_names_right := fun_mk (st := s__law_names_right) lp_law_names_right cp_law_names_right kp_law_names_right
  have bp_law_names_right := Fp_law_names_right.binds (ps := ["names", "name"]) fun _ _ _ _ _ _ us hl => match us, hl with | [_, _], _ => rfl
  have Flaw := fun_mk (st := s_law) llaw claw klaw
  have B : Bl mg := { all := PySem.W.mg_none_of X G zall, any := PySem.W.mg_none_of X G zany, bool := PySem.W.mg_none_of X G zbool, int := PySem.W.mg_none_of X G zint, isinstance := PySem.W.mg_none_of X G zisinstance, len := PySem.W.mg_none_of X G zlen, list := PySem.W.mg_none_of X G zlist, max := PySem.W.mg_none_of X G zmax, min := PySem.W.mg_none_of X G zmin, range := PySem.W.mg_none_of X G zrange, repr := PySem.W.mg_none_of X G zrepr, sorted := PySem.W.mg_none_of X G zsorted, str := PySem.W.mg_none_of X G zstr, tuple := PySem.W.mg_none_of X G ztuple }
  have OBadFormula : OexC K CBadFormula := { cls := ⟨_, _, _, _, _, _, _, _, _, _, _, _, _, _, _, xlBadFormula, rfl⟩, sa := saBadFormula, exC := ebBadFormula, tyC := tyBadFormula, kC := kcBadFormula }
  have SBadFormula : Sup P K mg CBadFormula iBadFormula "BadFormula.__init__" s_BadFormula_init (PySem.W.fnX "__init__" "BadFormula.__init__" (defArgs s_BadFormula_init) (defBody s_BadFormula_init) (defScope s_BadFormula_init) [("__class__", ccBadFormula)] .none kViBadFormula dciBadFormula pmiBadFormula aniBadFormula (.ref cdaBadFormula) ctiBadFormula) :=
    { O := OBadFormula, iC := inBadFormula, tI := tiBadFormula, ex := ⟨_, _, _, _, _, _, _, _, _, _, _, _, _, _, _, _, _, _, _, rfl, liBadFormula, ciBadFormula, ldBadFormula, vfBadFormula, hfBadFormula, lcBadFormula⟩, sup := suBadFormula, opq := opq, sVE := veBadFormula, mro := mrBadFormula, sG := PySem.W.mg_none_of X G zsuper, top := top }
  have bxBadFormula : Binds K (PySem.W.fnX "__init__" "BadFormula.__init__" (defArgs s_BadFormula_init) (defBody s_BadFormula_init) (defScope s_BadFormula_init) [("__class__", ccBadFormula)] .none kViBadFormula dciBadFormula pmiBadFormula aniBadFormula (.ref cdaBadFormula) ctiBadFormula) ["self"] [] := fun s us _ hl => by
    rw [List.append_nil] at hl ⊢
    exact match us, hl with | [_], _ => .of_eq rfl
  have nfBadFormula : ∀ y ∈ ([] : List Str), PySem.W.findIn K (.ref CBadFormula) y = some none := by
    intro y hy
    simp only [List.mem_cons, List.not_mem_nil, or_false] at hy
  let EBadFormula : Ke P K mg "BadFormula" "BadFormula.__init__" s_BadFormula_init ["self"] [] := { C := CBadFormula, f := iBadFormula, fd := _, T := SBadFormula, b := bxBadFormula, nf := nfBadFormula, g := PySem.W.mg_of X G gxBadFormula, X := ⟨gaBadFormula, ggBadFormula, ebBadFormula, hdBadFormula⟩ }
  have OBadText : OexC K CBadText := { cls := ⟨_, _, _, _, _, _, _, _, _, _, _, _, _, _, _, xlBadText, rfl⟩, sa := saBadText, exC := ebBadText, tyC := tyBadText, kC := kcBadText }
  have SBadText : Sup P K mg CBadText iBadText "BadText.__init__" s_BadText_init (PySem.W.fnX "__init__" "BadText.__init__" (defArgs s_BadText_init) (defBody s_BadText_init) (defScope s_BadText_init) [("__class__", ccBadText)] .none kViBadText dciBadText pmiBadText aniBadText (.ref cdaBadText) ctiBadText) :=
    { O := OBadText, iC := inBadText, tI := tiBadText, ex := ⟨_, _, _, _, _, _, _, _, _, _, _, _, _, _, _, _, _, _, _, rfl, liBadText, ciBadText, ldBadText, vfBadText, hfBadText, lcBadText⟩, sup := suBadText, opq := opq, sVE := veBadText, mro := mrBadText, sG := PySem.W.mg_none_of X G zsuper, top := top }
  have bxBadText : Binds K (PySem.W.fnX "__init__" "BadText.__init__" (defArgs s_BadText_init) (defBody s_BadText_init) (defScope s_BadText_init) [("__class__", ccBadText)] .none kViBadText dciBadText pmiBadText aniBadText (.ref cdaBadText) ctiBadText) ["self", "line"] [] := fun s us _ hl => by
    rw [List.append_nil] at hl ⊢
    exact match us, hl with | [_, _], _ => .of_eq rfl
  have nfBadText : ∀ y ∈ (["line"] : List Str), PySem.W.findIn K (.ref CBadText) y = some none := by
    intro y hy
    simp only [List.mem_cons, List.not_mem_nil, or_false] at hy
    subst hy
    exact nlineBadText
  let EBadText : Ke P K mg "BadText" "BadText.__init__" s_BadText_init ["self", "line"] ["line"] := { C := CBadText, f := iBadText, fd := _, T := SBadText, b := bxBadText, nf := nfBadText, g := PySem.W.mg_of X G gxBadText, X := ⟨gaBadText, ggBadText, ebBadText, hdBadText⟩ }
  have FBracket_init := fun_mk (st := s_Bracket_init) mlBracket_init mcBracket_init mkBracket_init
  have bBracket_init := FBracket_init.binds (ps := ["self"]) fun _ _ _ _ _ _ us hl => match us, hl with | [_], _ => rfl
  have FBracket_take := fun_mk (st := s_Bracket_take) mlBracket_take mcBracket_take mkBracket_take
  have bBracket_take := FBracket_take.binds (ps := ["self", "formula", "depth"]) fun _ _ _ _ _ _ us hl => match us, hl with | [_, _, _], _ => rfl
  have FBracket_whole := fun_mk (st := s_Bracket_whole) mlBracket_whole mcBracket_whole mkBracket_whole
  have bBracket_whole := FBracket_whole.binds (ps := ["self"]) fun _ _ _ _ _ _ us hl => match us, hl with | [_], _ => rfl
  have FReader_init := fun_mk (st := s_Reader_init) mlReader_init mcReader_init mkReader_init
  have bReader_init := FReader_init.binds (ps := ["self"]) fun _ _ _ _ _ _ us hl => match us, hl with | [_], _ => rfl
  have FReader_read := fun_mk (st := s_Reader_read) mlReader_read mcReader_read mkReader_read
  have bReader_read := FReader_read.binds (ps := ["self", "word"]) fun _ _ _ _ _ _ us hl => match us, hl with | [_, _], _ => rfl
  have FReader_read_edge_name := fun_mk (st := s_Reader_read_edge_name) mlReader_read_edge_name mcReader_read_edge_name mkReader_read_edge_name
  have bReader_read_edge_name := FReader_read_edge_name.binds (ps := ["self", "word"]) fun _ _ _ _ _ _ us hl => match us, hl with | [_, _], _ => rfl
  have FReader_read_beginning := fun_mk (st := s_Reader_read_beginning) mlReader_read_beginning mcReader_read_beginning mkReader_read_beginning
  have bReader_read_beginning := FReader_read_beginning.binds (ps := ["self", "word"]) fun _ _ _ _ _ _ us hl => match us, hl with | [_, _], _ => rfl
  have FReader_read_behind := fun_mk (st := s_Reader_read_behind) mlReader_read_behind mcReader_read_behind mkReader_read_behind
  have bReader_read_behind := FReader_read_behind.binds (ps := ["self", "word"]) fun _ _ _ _ _ _ us hl => match us, hl with | [_, _], _ => rfl
  have FReader_took := fun_mk (st := s_Reader_took) mlReader_took mcReader_took mkReader_took
  have bReader_took := FReader_took.binds (ps := ["self", "formula", "depth"]) fun _ _ _ _ _ _ us hl => match us, hl with | [_, _, _], _ => rfl
  have nfBracket : ∀ y ∈ (["parts", "depth", "joint", "nots"] : List Str), NoAttr K KBracket y := by
    intro y hy
    simp only [List.mem_cons, List.not_mem_nil, or_false] at hy
    rcases hy with rfl | rfl | rfl | rfl
    · exact knBracketparts
    · exact knBracketdepth
    · exact knBracketjoint
    · exact knBracketnots
  let EBracket : Kc K mg "Bracket" "Bracket.__init__" s_Bracket_init ["self"] ["parts", "depth", "joint", "nots"] := { C := KBracket, f := gBracket_init, fd := _, F := FBracket_init, b := bBracket_init, M := ⟨kmkBracket, maBracket_init, miBracket_init, kkcBracket⟩, cl := ⟨kpgBracket, khdBracket, kpoBracket, ksaBracket⟩, nf := nfBracket, g := PySem.W.mg_of X G kgBracket }
  have nfReader : ∀ y ∈ (["brackets", "edge", "wants"] : List Str), NoAttr K KReader y := by
    intro y hy
    simp only [List.mem_cons, List.not_mem_nil, or_false] at hy
    rcases hy with rfl | rfl | rfl
    · exact knReaderbrackets
    · exact knReaderedge
    · exact knReaderwants
  let EReader : Kc K mg "Reader" "Reader.__init__" s_Reader_init ["self"] ["brackets", "edge", "wants"] := { C := KReader, f := gReader_init, fd := _, F := FReader_init, b := bReader_init, M := ⟨kmkReader, maReader_init, miReader_init, kkcReader⟩, cl := ⟨kpgReader, khdReader, kpoReader, ksaReader⟩, nf := nfReader, g := PySem.W.mg_of X G kgReader }
  let PR : Pr P K mg := { B := B, e_BadFormula := ⟨gaBadFormula, ggBadFormula, ebBadFormula, hdBadFormula, eiaBadFormula, einBadFormula, eitBadFormula, eimBadFormula⟩, BadFormula := EBadFormula, BadText := EBadText, x_BadFormula_BadFormula := exm_of ebBadFormula icBadFormula tyBadFormula sBadFormulaBadFormula, x_BadFormula_BadText := exm_of ebBadText icBadText tyBadText sBadFormulaBadText, x_BadText_BadFormula := exm_of ebBadFormula icBadFormula tyBadFormula sBadTextBadFormula, x_BadText_BadText := exm_of ebBadText icBadText tyBadText sBadTextBadText, Bracket := EBracket, Bracket_take := { f := gBracket_take, fd := _, F := FBracket_take, b := bBracket_take, M := ⟨maBracket_take, miBracket_take, mkBracket_take⟩ }, Bracket_whole := { f := gBracket_whole, fd := _, F := FBracket_whole, b := bBracket_whole, M := ⟨maBracket_whole, miBracket_whole, mkBracket_whole⟩ }, Reader := EReader, Reader_read := { f := gReader_read, fd := _, F := FReader_read, b := bReader_read, M := ⟨maReader_read, miReader_read, mkReader_read⟩ }, Reader_read_edge_name := { f := gReader_read_edge_name, fd := _, F := FReader_read_edge_name, b := bReader_read_edge_name, M := ⟨maReader_read_edge_name, miReader_read_edge_name, mkReader_read_edge_name⟩ }, Reader_read_beginning := { f := gReader_read_beginning, fd := _, F := FReader_read_beginning, b := bReader_read_beginning, M := ⟨maReader_read_beginning, miReader_read_beginning, mkReader_read_beginning⟩ }, Reader_read_behind := { f := gReader_read_behind, fd := _, F := FReader_read_behind, b := bReader_read_behind, M := ⟨maReader_read_behind, miReader_read_behind, mkReader_read_behind⟩ }, Reader_took := { f := gReader_took, fd := _, F := FReader_took, b := bReader_took, M := ⟨maReader_took, miReader_took, mkReader_took⟩ }, k_LETTERS := ⟨tCLETTERS, PySem.W.mg_of X G vCLETTERS⟩, k_SIGNS := ⟨tCSIGNS, PySem.W.mg_of X G vCSIGNS⟩, k_WORDS := ⟨aCWORDS, PySem.W.mg_of X G vCWORDS, fun H => .inr ⟨_, _, _, xCWORDS, rfl, rfl, by show 5 ≤ sizeLine; decide, (.cons ⟨_, rfl⟩ (.cons ⟨_, rfl⟩ (.cons ⟨_, rfl⟩ (.cons ⟨_, rfl⟩ (.cons ⟨_, rfl⟩ .nil)))))⟩⟩, k_EDGES := ⟨aCEDGES, PySem.W.mg_of X G vCEDGES, fun H => .inr ⟨_, _, _, xCEDGES, rfl, rfl, by show 2 ≤ sizeLine; decide, (.cons ⟨_, rfl⟩ (.cons ⟨_, rfl⟩ .nil))⟩⟩, k_JOINTS := ⟨aCJOINTS, PySem.W.mg_of X G vCJOINTS, fun H => .inr ⟨_, _, _, xCJOINTS, rfl, rfl, by show 2 ≤ sizeLine; decide, (.cons ⟨_, rfl⟩ (.cons ⟨_, rfl⟩ .nil))⟩⟩, k_DEEPEST := ⟨tCDEEPEST, PySem.W.mg_of X G vCDEEPEST⟩, is_formula := { f := fpis_formula, fd := _, ds := dspis_formula, F := Fpis_formula, b := bpis_formula, v := vpis_formula, g := PySem.W.mg_of X G apis_formula }, a_RungsError := ⟨ARungsError, PySem.W.mg_of X G gARungsError⟩, x_BadFormula_RungsError := exm_of eaRungsError iaRungsError yaRungsError saBadFormulaRungsError, x_BadText_RungsError := exm_of eaRungsError iaRungsError yaRungsError saBadTextRungsError, is_whole := { f := fpis_whole, fd := _, F := Fpis_whole, b := bpis_whole, g := PySem.W.mg_of X G apis_whole }, is_bit := { f := fpis_bit, fd := _, F := Fpis_bit, b := bpis_bit, g := PySem.W.mg_of X G apis_bit }, is_name := { f := fpis_name, fd := _, F := Fpis_name, b := bpis_name, g := PySem.W.mg_of X G apis_name }, _is_part := { f := fp_is_part, fd := _, F := Fp_is_part, b := bp_is_part, g := PySem.W.mg_of X G ap_is_part }, check_formula := { f := fpcheck_formula, fd := _, F := Fpcheck_formula, b := bpcheck_formula, g := PySem.W.mg_of X G apcheck_formula }, leaves_of := { f := fpleaves_of, fd := _, F := Fpleaves_of, b := bpleaves_of, g := PySem.W.mg_of X G apleaves_of }, has_edges := { f := fphas_edges, fd := _, F := Fphas_edges, b := bphas_edges, g := PySem.W.mg_of X G aphas_edges }, is_plain := { f := fpis_plain, fd := _, F := Fpis_plain, b := bpis_plain, g := PySem.W.mg_of X G apis_plain }, told_names := { f := fptold_names, fd := _, F := Fptold_names, b := bptold_names, g := PySem.W.mg_of X G aptold_names }, told_edges := { f := fptold_edges, fd := _, F := Fptold_edges, b := bptold_edges, g := PySem.W.mg_of X G aptold_edges }, names_of := { f := fpnames_of, fd := _, F := Fpnames_of, b := bpnames_of, g := PySem.W.mg_of X G apnames_of }, edges_of := { f := fpedges_of, fd := _, F := Fpedges_of, b := bpedges_of, g := PySem.W.mg_of X G apedges_of }, told_text := { f := fptold_text, fd := _, F := Fptold_text, b := bptold_text, g := PySem.W.mg_of X G aptold_text }, formula_text := { f := fpformula_text, fd := _, F := Fpformula_text, b := bpformula_text, g := PySem.W.mg_of X G apformula_text }, read_formula := { f := fpread_formula, fd := _, F := Fpread_formula, b := bpread_formula, g := PySem.W.mg_of X G apread_formula }, formula_from := { f := fpformula_from, fd := _, F := Fpformula_from, b := bpformula_from, g := PySem.W.mg_of X G apformula_from }, _law_numbers := { f := fp_law_numbers, fd := _, F := Fp_law_numbers, b := bp_law_numbers, g := PySem.W.mg_of X G ap_law_numbers }, _law_draw := { f := fp_law_draw, fd := _, F := Fp_law_draw, b := bp_law_draw, g := PySem.W.mg_of X G ap_law_draw }, _law_pool := { f := fp_law_pool, fd := _, F := Fp_law_pool, b := bp_law_pool, g := PySem.W.mg_of X G ap_law_pool }, _law_leaf_told := { f := fp_law_leaf_told, fd := _, F := Fp_law_leaf_told, b := bp_law_leaf_told, g := PySem.W.mg_of X G ap_law_leaf_told }, _law_wrapped := { f := fp_law_wrapped, fd := _, F := Fp_law_wrapped, b := bp_law_wrapped, g := PySem.W.mg_of X G ap_law_wrapped }, _law_gap := { f := fp_law_gap, fd := _, F := Fp_law_gap, b := bp_law_gap, g := PySem.W.mg_of X G ap_law_gap }, _law_not_told := { f := fp_law_not_told, fd := _, F := Fp_law_not_told, b := bp_law_not_told, g := PySem.W.mg_of X G ap_law_not_told }, _law_joint_told := { f := fp_law_joint_told, fd := _, F := Fp_law_joint_told, b := bp_law_joint_told, g := PySem.W.mg_of X G ap_law_joint_told }, _law_grown := { f := fp_law_grown, fd := _, F := Fp_law_grown, b := bp_law_grown, g := PySem.W.mg_of X G ap_law_grown }, _law_each_once := { f := fp_law_each_once, fd := _, F := Fp_law_each_once, b := bp_law_each_once, g := PySem.W.mg_of X G ap_law_each_once }, _law_good := { f := fp_law_good, fd := _, F := Fp_law_good, b := bp_law_good, g := PySem.W.mg_of X G ap_law_good }, _law_wide_right := { f := fp_law_wide_right, fd := _, F := Fp_law_wide_right, b := bp_law_wide_right, g := PySem.W.mg_of X G ap_law_wide_right }, _law_line := { f := fp_law_line, fd := _, F := Fp_law_line, b := bp_law_line, g := PySem.W.mg_of X G ap_law_line }, _law_refused := { f := fp_law_refused, fd := _, F := Fp_law_refused, b := bp_law_refused, g := PySem.W.mg_of X G ap_law_refused }, _law_bad_formulas := { f := fp_law_bad_formulas, fd := _, F := Fp_law_bad_formulas, b := bp_law_bad_formulas, g := PySem.W.mg_of X G ap_law_bad_formulas }, _law_bad_texts := { f := fp_law_bad_texts, fd := _, F := Fp_law_bad_texts, b := bp_law_bad_texts, g := PySem.W.mg_of X G ap_law_bad_texts }, _law_names_right := { f := fp_law_names_right, fd := _, F := Fp_law_names_right, b := bp_law_names_right, g := PySem.W.mg_of X G ap_law_names_right } }
  exact ⟨_, fun s v => .of_eq rfl, fun base _ _ => ok_law PR Flaw⟩
end K7

set_option Elab.async false
set_option linter.all false
open PySem PySem.W PyProof.Rows
set_option maxRecDepth 100000
set_option maxHeartbeats 0 in
theorem PySem.Challenge.cw_guardrungs_k00_formulas_holds : PySem.Challenge.rw_guardrungs_k00_formulas.Holds := by
  w_on; o_law; k_head; (case hw => w_witness2)
  k_fill
  refine RG.walkG (T := fun w => L2.CX PySem.Challenge.rw_guardrungs_k00_formulas.prog w) (l := PySem.Challenge.rw_guardrungs_k00_formulas) (n := 63) (k := 70) (x := "script") (sp := fun w => K7.spLaw _) rfl (by decide) rfl ⟨rfl, by decide, by decide⟩ (fun w h Y => PySem.W.kIn_of Y) ?F (fun _ _ a ns hl _ hS => ⟨a, ns, rfl, hS, hl, fun _ => rfl⟩) (fun _ _ _ _ _ h => by obtain ⟨_, _, _, _, _, _, _, _, _, _, _, _, z⟩ := h; exact z)
  case F =>
    intro w mg fa h KX G hmg
    refine' K7.all_mk KX G hmg ?apis_whole ?lpis_whole ?cpis_whole ?kpis_whole ?apis_bit ?lpis_bit ?cpis_bit ?kpis_bit ?apis_name ?lpis_name ?cpis_name ?kpis_name ?apis_formula ?dtpis_formula ?lpis_formula ?cpis_formula ?kpis_formula ?ap_is_part ?lp_is_part ?cp_is_part ?kp_is_part ?apcheck_formula ?lpcheck_formula ?cpcheck_formula ?kpcheck_formula ?apleaves_of ?lpleaves_of ?cpleaves_of ?kpleaves_of ?aphas_edges ?lphas_edges ?cphas_edges ?kphas_edges ?apis_plain ?lpis_plain ?cpis_plain ?kpis_plain ?aptold_names ?lptold_names ?cptold_names ?kptold_names ?aptold_edges ?lptold_edges ?cptold_edges ?kptold_edges ?apnames_of ?lpnames_of ?cpnames_of ?kpnames_of ?apedges_of ?lpedges_of ?cpedges_of ?kpedges_of ?aptold_text ?lptold_text ?cptold_text ?kptold_text ?apformula_text ?lpformula_text ?cpformula_text ?kpformula_text ?apread_formula ?lpread_formula ?cpread_formula ?kpread_formula ?apformula_from ?lpformula_from ?cpformula_from ?kpformula_from ?ap_law_numbers ?lp_law_numbers ?cp_law_numbers ?kp_law_numbers ?ap_law_draw ?lp_law_draw ?cp_law_draw ?kp_law_draw ?ap_law_pool ?lp_law_pool ?cp_law_pool ?kp_law_pool ?ap_law_leaf_told ?lp_law_leaf_told ?cp_law_leaf_told ?kp_law_leaf_told ?ap_law_wrapped ?lp_law_wrapped ?cp_law_wrapped ?kp_law_wrapped ?ap_law_gap ?lp_law_gap ?cp_law_gap ?kp_law_gap ?ap_law_not_told ?lp_law_not_told ?cp_law_not_told ?kp_law_not_told ?ap_law_joint_told ?lp_law_joint_told ?cp_law_joint_told ?kp_law_joint_told ?ap_law_grown ?lp_law_grown ?cp_law_grown ?kp_law_grown ?ap_law_each_once ?lp_law_each_once ?cp_law_each_once ?kp_law_each_once ?ap_law_good ?lp_law_good ?cp_law_good ?kp_law_good ?ap_law_wide_right ?lp_law_wide_right ?cp_law_wide_right ?kp_law_wide_right ?ap_law_line ?lp_law_line ?cp_law_line ?kp_law_line ?ap_law_refused ?lp_law_refused ?cp_law_refused ?kp_law_refused ?ap_law_bad_formulas ?lp_law_bad_formulas ?cp_law_bad_formulas ?kp_law_bad_formulas ?ap_law_bad_texts ?lp_law_bad_texts ?cp_law_bad_texts ?kp_law_bad_texts ?ap_law_names_right ?lp_law_names_right ?cp_law_names_right ?kp_law_names_right ?alaw ?llaw ?claw ?klaw ?zall ?zany ?zbool ?zint ?zisinstance ?zlen ?zlist ?zmax ?zmin ?zrange ?zrepr ?zsorted ?zstr ?zsuper ?ztuple ?vCLETTERS ?vCSIGNS ?vCWORDS ?xCWORDS ?vCEDGES ?xCEDGES ?vCJOINTS ?xCJOINTS ?vCDEEPEST ?gARungsError ?gxBadFormula ?xlBadFormula ?saBadFormula ?gaBadFormula ?ggBadFormula ?ebBadFormula ?tyBadFormula ?kcBadFormula ?hdBadFormula ?icBadFormula ?inBadFormula ?tiBadFormula ?liBadFormula ?ciBadFormula ?ldBadFormula ?vfBadFormula ?hfBadFormula ?lcBadFormula ?suBadFormula ?veBadFormula ?mrBadFormula ?eiaBadFormula ?einBadFormula ?eitBadFormula ?eimBadFormula ?gxBadText ?xlBadText ?saBadText ?gaBadText ?ggBadText ?ebBadText ?tyBadText ?kcBadText ?hdBadText ?icBadText ?inBadText ?tiBadText ?liBadText ?ciBadText ?ldBadText ?vfBadText ?hfBadText ?lcBadText ?suBadText ?veBadText ?mrBadText ?nlineBadText ?eaRungsError ?iaRungsError ?yaRungsError ?saBadFormulaRungsError ?saBadTextRungsError ?kgBracket ?kpgBracket ?khdBracket ?kpoBracket ?ksaBracket ?kmkBracket ?kkcBracket ?knBracketparts ?knBracketdepth ?knBracketjoint ?knBracketnots ?kgReader ?kpgReader ?khdReader ?kpoReader ?ksaReader ?kmkReader ?kkcReader ?knReaderbrackets ?knReaderedge ?knReaderwants ?maBracket_init ?miBracket_init ?mlBracket_init ?mcBracket_init ?mkBracket_init ?maBracket_take ?miBracket_take ?mlBracket_take ?mcBracket_take ?mkBracket_take ?maBracket_whole ?miBracket_whole ?mlBracket_whole ?mcBracket_whole ?mkBracket_whole ?maReader_init ?miReader_init ?mlReader_init ?mcReader_init ?mkReader_init ?maReader_read ?miReader_read ?mlReader_read ?mcReader_read ?mkReader_read ?maReader_read_edge_name ?miReader_read_edge_name ?mlReader_read_edge_name ?mcReader_read_edge_name ?mkReader_read_edge_name ?maReader_read_beginning ?miReader_read_beginning ?mlReader_read_beginning ?mcReader_read_beginning ?mkReader_read_beginning ?maReader_read_behind ?miReader_read_behind ?mlReader_read_behind ?mcReader_read_behind ?mkReader_read_behind ?maReader_took ?miReader_took ?mlReader_took ?mcReader_took ?mkReader_took ?opq ?sBadFormulaBadFormula ?sBadFormulaBadText ?sBadTextBadFormula ?sBadTextBadText ?top
    (case apis_whole => k_is)
    (case lpis_whole => k_is)
    (case cpis_whole => k_is)
    (case kpis_whole => k_is)
    (case apis_bit => k_is)
    (case lpis_bit => k_is)
    (case cpis_bit => k_is)
    (case kpis_bit => k_is)
    (case apis_name => k_is)
    (case lpis_name => k_is)
    (case cpis_name => k_is)
    (case kpis_name => k_is)
    (case apis_formula => k_is)
    (case lpis_formula => k_is)
    (case dtpis_formula => k_is)
    (case cpis_formula => k_is)
    (case kpis_formula => k_is)
    (case ap_is_part => k_is)
    (case lp_is_part => k_is)
    (case cp_is_part => k_is)
    (case kp_is_part => k_is)
    (case apcheck_formula => k_is)
    (case lpcheck_formula => k_is)
    (case cpcheck_formula => k_is)
    (case kpcheck_formula => k_is)
    (case apleaves_of => k_is)
    (case lpleaves_of => k_is)
    (case cpleaves_of => k_is)
    (case kpleaves_of => k_is)
    (case aphas_edges => k_is)
    (case lphas_edges => k_is)
    (case cphas_edges => k_is)
    (case kphas_edges => k_is)
    (case apis_plain => k_is)
    (case lpis_plain => k_is)
    (case cpis_plain => k_is)
    (case kpis_plain => k_is)
    (case aptold_names => k_is)
    (case lptold_names => k_is)
    (case cptold_names => k_is)
    (case kptold_names => k_is)
    (case aptold_edges => k_is)
    (case lptold_edges => k_is)
    (case cptold_edges => k_is)
    (case kptold_edges => k_is)
    (case apnames_of => k_is)
    (case lpnames_of => k_is)
    (case cpnames_of => k_is)
    (case kpnames_of => k_is)
    (case apedges_of => k_is)
    (case lpedges_of => k_is)
    (case cpedges_of => k_is)
    (case kpedges_of => k_is)
    (case aptold_text => k_is)
    (case lptold_text => k_is)
    (case cptold_text => k_is)
    (case kptold_text => k_is)
    (case apformula_text => k_is)
    (case lpformula_text => k_is)
    (case cpformula_text => k_is)
    (case kpformula_text => k_is)
    (case apread_formula => k_is)
    (case lpread_formula => k_is)
    (case cpread_formula => k_is)
    (case kpread_formula => k_is)
    (case apformula_from => k_is)
    (case lpformula_from => k_is)
    (case cpformula_from => k_is)
    (case kpformula_from => k_is)
    (case ap_law_numbers => k_is)
    (case lp_law_numbers => k_is)
    (case cp_law_numbers => k_is)
    (case kp_law_numbers => k_is)
    (case ap_law_draw => k_is)
    (case lp_law_draw => k_is)
    (case cp_law_draw => k_is)
    (case kp_law_draw => k_is)
    (case ap_law_pool => k_is)
    (case lp_law_pool => k_is)
    (case cp_law_pool => k_is)
    (case kp_law_pool => k_is)
    (case ap_law_leaf_told => k_is)
    (case lp_law_leaf_told => k_is)
    (case cp_law_leaf_told => k_is)
    (case kp_law_leaf_told => k_is)
    (case ap_law_wrapped => k_is)
    (case lp_law_wrapped => k_is)
    (case cp_law_wrapped => k_is)
    (case kp_law_wrapped => k_is)
    (case ap_law_gap => k_is)
    (case lp_law_gap => k_is)
    (case cp_law_gap => k_is)
    (case kp_law_gap => k_is)
    (case ap_law_not_told => k_is)
    (case lp_law_not_told => k_is)
    (case cp_law_not_told => k_is)
    (case kp_law_not_told => k_is)
    (case ap_law_joint_told => k_is)
    (case lp_law_joint_told => k_is)
    (case cp_law_joint_told => k_is)
    (case kp_law_joint_told => k_is)
    (case ap_law_grown => k_is)
    (case lp_law_grown => k_is)
    (case cp_law_grown => k_is)
    (case kp_law_grown => k_is)
    (case ap_law_each_once => k_is)
    (case lp_law_each_once => k_is)
    (case cp_law_each_once => k_is)
    (case kp_law_each_once => k_is)
    (case ap_law_good => k_is)
    (case lp_law_good => k_is)
    (case cp_law_good => k_is)
    (case kp_law_good => k_is)
    (case ap_law_wide_right => k_is)
    (case lp_law_wide_right => k_is)
    (case cp_law_wide_right => k_is)
    (case kp_law_wide_right => k_is)
    (case ap_law_line => k_is)
    (case lp_law_line => k_is)
    (case cp_law_line => k_is)
    (case kp_law_line => k_is)
    (case ap_law_refused => k_is)
    (case lp_law_refused => k_is)
    (case cp_law_refused => k_is)
    (case kp_law_refused => k_is)
    (case ap_law_bad_formulas => k_is)
    (case lp_law_bad_formulas => k_is)
    (case cp_law_bad_formulas => k_is)
    (case kp_law_bad_formulas => k_is)
    (case ap_law_bad_texts => k_is)
    (case lp_law_bad_texts => k_is)
    (case cp_law_bad_texts => k_is)
    (case kp_law_bad_texts => k_is)
    (case ap_law_names_right => k_is)
    (case lp_law_names_right => k_is)
    (case cp_law_names_right => k_is)
    (case kp_law_names_right => k_is)
    (case alaw => k_is)
    (case llaw => k_is)
    (case claw => k_is)
    (case klaw => k_is)
    (case zall => k_is)
    (case zany => k_is)
    (case zbool => k_is)
    (case zint => k_is)
    (case zisinstance => k_is)
    (case zlen => k_is)
    (case zlist => k_is)
    (case zmax => k_is)
    (case zmin => k_is)
    (case zrange => k_is)
    (case zrepr => k_is)
    (case zsorted => k_is)
    (case zstr => k_is)
    (case zsuper => k_is)
    (case ztuple => k_is)
    (case vCLETTERS => k_is)
    (case vCSIGNS => k_is)
    (case vCWORDS => k_is)
    (case xCWORDS => k_is)
    (case vCEDGES => k_is)
    (case xCEDGES => k_is)
    (case vCJOINTS => k_is)
    (case xCJOINTS => k_is)
    (case vCDEEPEST => k_is)
    (case gARungsError => k_is)
    (case gxBadFormula => k_is)
    (case xlBadFormula => k_is)
    (case saBadFormula => k_is)
    (case gaBadFormula => k_is)
    (case ggBadFormula => k_is)
    (case ebBadFormula => k_is)
    (case tyBadFormula => k_is)
    (case kcBadFormula => k_is)
    (case hdBadFormula => k_is)
    (case icBadFormula => k_is)
    (case inBadFormula => k_is)
    (case tiBadFormula => k_is)
    (case liBadFormula => k_is)
    (case ciBadFormula => k_is)
    (case ldBadFormula => k_is)
    (case vfBadFormula => first | rfl | k_is)
    (case hfBadFormula => first | rfl | decide | k_is)
    (case lcBadFormula => k_is)
    (case suBadFormula => first | rfl | decide +kernel)
    (case veBadFormula => k_is)
    (case mrBadFormula => k_is)
    (case eiaBadFormula => k_is)
    (case einBadFormula => k_is)
    (case eitBadFormula => k_is)
    (case eimBadFormula => k_is)
    (case gxBadText => k_is)
    (case xlBadText => k_is)
    (case saBadText => k_is)
    (case gaBadText => k_is)
    (case ggBadText => k_is)
    (case ebBadText => k_is)
    (case tyBadText => k_is)
    (case kcBadText => k_is)
    (case hdBadText => k_is)
    (case icBadText => k_is)
    (case inBadText => k_is)
    (case tiBadText => k_is)
    (case liBadText => k_is)
    (case ciBadText => k_is)
    (case ldBadText => k_is)
    (case vfBadText => first | rfl | k_is)
    (case hfBadText => first | rfl | decide | k_is)
    (case lcBadText => k_is)
    (case suBadText => first | rfl | decide +kernel)
    (case veBadText => k_is)
    (case mrBadText => k_is)
    (case nlineBadText => k_is)
    (case eaRungsError => k_is)
    (case iaRungsError => k_is)
    (case yaRungsError => k_is)
    (case saBadFormulaRungsError => k_is)
    (case saBadTextRungsError => k_is)
    (case kgBracket => k_is)
    (case kpgBracket => k_is)
    (case khdBracket => k_is)
    (case kpoBracket => k_is)
    (case ksaBracket => k_is)
    (case kmkBracket => k_is)
    (case kkcBracket => k_is)
    (case knBracketparts => k_is)
    (case knBracketdepth => k_is)
    (case knBracketjoint => k_is)
    (case knBracketnots => k_is)
    (case kgReader => k_is)
    (case kpgReader => k_is)
    (case khdReader => k_is)
    (case kpoReader => k_is)
    (case ksaReader => k_is)
    (case kmkReader => k_is)
    (case kkcReader => k_is)
    (case knReaderbrackets => k_is)
    (case knReaderedge => k_is)
    (case knReaderwants => k_is)
    (case maBracket_init => k_is)
    (case miBracket_init => k_is)
    (case mlBracket_init => k_is)
    (case mcBracket_init => k_is)
    (case mkBracket_init => k_is)
    (case maBracket_take => k_is)
    (case miBracket_take => k_is)
    (case mlBracket_take => k_is)
    (case mcBracket_take => k_is)
    (case mkBracket_take => k_is)
    (case maBracket_whole => k_is)
    (case miBracket_whole => k_is)
    (case mlBracket_whole => k_is)
    (case mcBracket_whole => k_is)
    (case mkBracket_whole => k_is)
    (case maReader_init => k_is)
    (case miReader_init => k_is)
    (case mlReader_init => k_is)
    (case mcReader_init => k_is)
    (case mkReader_init => k_is)
    (case maReader_read => k_is)
    (case miReader_read => k_is)
    (case mlReader_read => k_is)
    (case mcReader_read => k_is)
    (case mkReader_read => k_is)
    (case maReader_read_edge_name => k_is)
    (case miReader_read_edge_name => k_is)
    (case mlReader_read_edge_name => k_is)
    (case mcReader_read_edge_name => k_is)
    (case mkReader_read_edge_name => k_is)
    (case maReader_read_beginning => k_is)
    (case miReader_read_beginning => k_is)
    (case mlReader_read_beginning => k_is)
    (case mcReader_read_beginning => k_is)
    (case mkReader_read_beginning => k_is)
    (case maReader_read_behind => k_is)
    (case miReader_read_behind => k_is)
    (case mlReader_read_behind => k_is)
    (case mcReader_read_behind => k_is)
    (case mkReader_read_behind => k_is)
    (case maReader_took => k_is)
    (case miReader_took => k_is)
    (case mlReader_took => k_is)
    (case mcReader_took => k_is)
    (case mkReader_took => k_is)
    (case opq => k_is)
    (case sBadFormulaBadFormula => k_is)
    (case sBadFormulaBadText => k_is)
    (case sBadTextBadFormula => k_is)
    (case sBadTextBadText => k_is)
    (case top => first | rfl | decide)

