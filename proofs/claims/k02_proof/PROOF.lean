import PyProof.Rows.All
import Wide.All
import OpenK.AllK
import Wide.FinOn
import KE.KExcSuper
import HandS.Base
import HandS.Call
import HandS.List
import HandS.Ends
import HandS.Exc
import HandS.ExcOwn
import HandS.ExcInit
import HandS.Words
import HandS.Nested
import HandS.TryMany
import KE.GoesMore
import KE.GoesEnum
import HandS.Iter
import HandS.Sort
import HandS.SortInts
import HandS.TupMul
import HandS.TupAny
import PyProof.ListMulRoad
import HandS.CallSlots
import KE.KDictZip
import KE.KDictItemsList
import HandS.ListItems
import HandS.MapObj
import HandS.Gcd
import KE.KMathGC
import KE.GoesZip
import HandS.Zip0
import KE.DataMinMax
import HandS.SortKw
import PyProof.EqAt
import PyProof.EqKinds
import PyProof.TupleCall
import HandS.Comp
import HandS.Dict
import HandS.Set
import HandS.SetKeys
import HandS.SetBool
import HandS.SetFor
import HandS.WordsExc
import PyProof.ReprRoads
import HandS.ReplaceLit
import HandS.ReplaceList
import HandS.ReplaceDef
import HandS.FStr
import HandS.Text
import HandS.StrSplit
import HandS.Deep
import PyProof.StrOps2
import PyProof.NeData
import PyProof.Rows.StrSplitCount
import HandS.ForMost
import HandS.ForExc
import HandS.IsInst
import HandS.Conv
import HandS.Zip
import HandS.DictComp
import HandS.SortRule
import HandS.ExcField
import HandS.TupLe
import HandS.TryOnly
import HandS.Defaults
import HandS.More
import HandS.Walk
import HandS.WideBits
import PyProof.Rows.IntMath
import HandS.Star
import PyProof.P3Eq
import PyProof.ReprBulk
import PySem.Challenge.RW_guardrungs_k02_turned_and_hanging
set_option Elab.async false
set_option linter.all false
set_option maxRecDepth 100000
set_option maxHeartbeats 4000000
namespace GX
open PySem PySem.Spec PyProof.Rows L2 NdefX
/-- what the written part says of an own exception class whose __init__ goes over super -/
structure Sup (P : Program) (K : PySem.W.Frag) (mg : Str → Option Value) (C fI : Addr) (qual : Str) (st : Stmt) (fd : FuncData) : Prop where
  O : OexC K C
  iC : PySem.W.findIn K (.ref C) "__init__" = some (some (.ref fI))
  tI : PySem.W.typeIn K (.ref fI) = some (.type "function")
  ex : ∃ (oc : Value) (od : Option Addr) (kV doc pm ct : Value) (an : Option Addr) (osl : Array (Option Value)) (cc cda : Addr) (ccl cl : Value) (cdd cld : Option Addr) (vs : Array Value) (ccs csl : Array (Option Value)) (file : Str) (tf : Tok),
    fd = PySem.W.fnX "__init__" qual (defArgs st) (defBody st) (defScope st) [("__class__", cc)] .none kV doc pm an (.ref cda) ct ∧
    K.lookup fI = some ⟨oc, od, .func fd, osl⟩ ∧ PySem.W.codeIn K (.ref cda) qual = true ∧ K.lookup cda = some ⟨ccl, cdd, .fields vs, ccs⟩ ∧ vs[2]? = some (.str file tf) ∧ ((P.main.file : Str) == file) = true ∧
    K.lookup cc = some ⟨cl, cld, .cell (some (.ref C)), csl⟩
  sup : PySem.W.ks_superIn K C C "__init__" = some (some (.builtin "ValueError.__init__"))
  opq : PySem.W.nsIn K cStatics "thirdparty.any" = some none
  sVE : PySem.W.subIn K (.ref C) (.type "ValueError") = some true
  mro : PySem.W.mroIn K C (.ref C) = some true
  sG : mg "super" = none
  top : (P.main.scope.names.lookup ("super" : Str)).isSome = false
section
variable {X : Cx} {pins : List (Addr × Obj)} {σ : L2.St} {H : Hp} {s : Shared} {C a u : Addr}
/-- the built-in __init__ bound to the exception, called -/
theorem sup_call {A : Around} {E : Value → Shared → Prop} {us : List Value} {Q : Value → Shared → Prop} (T : OexC X.K C) (I : Inv X pins σ H s) (e : H a = some (exo a C none))
    (hu : s.heap.get? u = some (PySem.W.kxs_mw "ValueError.__init__" a)) (hl : us.length ≤ sizeLine) (h : ∀ s', Inv X pins σ H s' → Q .none s') : wpAny (model X.prog X.w) A (call (.ref u) us) Q E s := by
  obtain ⟨nm, q, N, bs, bm, sn, sub, ab, col, dd, k0, k1, k2, k3, k5, hC, hbm⟩ := T.cls
  have hC' := I.kIn _ _ hC
  obtain ⟨t1, ho⟩ := exo_at I.hok e
  obtain ⟨hp, g, d, t, os⟩ := s
  refine wpAny_call (codeAny_of_tree ?_)
  show wpAny _ A.in1 (callAny (.ref u) ⟨us, []⟩) _ _ _
  simp only [callAny]
  refine wpAny_bind (wpAny_load hu ?_)
  simp only [PySem.W.kxs_mw, show (Value.type "method-wrapper" == Value.type "method" || Value.type "method-wrapper" == Value.type "builtin_function_or_method" || Value.type "method-wrapper" == Value.type "method-wrapper") = true by decide, if_true]
  refine PySem.W.KFB.if_so (by decide) ?_
  refine wpAny_bind (PySem.W.check_bound_init F.excBase_ValueError.toExcCallFacts hC' ho rfl ?_)
  refine wpAny_bind (wpAny_pure (wpAny_pure ?_))
  refine ⟨plainId_quiet F.excBase_ValueError.init.plain _, codeAny_builtin F.excBase_ValueError.initEntry ?_⟩
  refine PySem.W.exc_init_tree (cls := .ref C) (t0 := t1) (dv := none) (c2 := .none) (c3 := .none) (b4 := .bool false) ho hl fun h' k hx _ => ?_
  have J := I.write (t' := t) (x := a) (e := a) (o := exo a C none) (by rw [e]; exact True.intro) (.inl rfl) k ⟨_, hx⟩ (exo_ok hx)
  have eu : upd H a (exo a C none) = H := by
    funext b
    by_cases hb : b = a
    · rw [hb, upd_same, e]
    · rw [upd_ne hb]
  rw [eu] at J
  exact h _ J
/-- super().__init__(e, ..) as a statement of an exception's own __init__ -/
theorem sup_stmt {body : List Stmt} {e : Expr} {es : List Expr} {ta : TA} {p0 p1 p2 p3 p4 : Pos} {pl : Sem Bool} {nx : Hp → Prop} {fI cda cc : Addr} {fd : FuncData} {ar : Arg} {oc ccl cl : Value} {od cdd cld : Option Addr} {osl ccs csl : Array (Option Value)} {vs : Array Value} {file : Str} {tf : Tok}
    (O : OexC X.K C) (hfu : X.env.func = some fI) (lkf : X.K.lookup fI = some ⟨oc, od, .func fd, osl⟩) (hp : (fd.params.posonlyargs ++ fd.params.args).head? = some ar) (hco : X.env.code = .ref cda) (lkc : X.K.lookup cda = some ⟨ccl, cdd, .fields vs, ccs⟩)
    (hvs : vs[2]? = some (.str file tf)) (hfile : ((X.prog.main.file : Str) == file) = true) (hcel : X.env.cells.lookup ("__class__" : Str) = some cc) (lkcc : X.K.lookup cc = some ⟨cl, cld, .cell (some (.ref C)), csl⟩)
    (hks : X.env.kindOf "super" = some .globalImplicit) (hkc : X.env.kindOf "__class__" = some .free) (hk0 : X.env.kindOf ar.arg = some .local) (hN0 : X.N[0]? = some ar.arg)
    (sup : PySem.W.ks_superIn X.K C C "__init__" = some (some (.builtin "ValueError.__init__"))) (opq : PySem.W.nsIn X.K cStatics "thirdparty.any" = some none) (sVE : PySem.W.subIn X.K (.ref C) (.type "ValueError") = some true)
    (mro : PySem.W.mroIn X.K C (.ref C) = some true) (sG : X.mg "super" = none) (top : (X.prog.main.scope.names.lookup ("super" : Str)).isSome = false)
    (hpa : PA X (e :: es) ta) (I : Inv X pins σ H s) (hs0 : σ[0]? = some (some (.ref a))) (ea : H a = some (exo a C none)) (h : ta σ H fun vs H1 => H1 a = some (exo a C none) ∧ vs.length ≤ 1000 ∧ nx H1)
    (hi : interactive X.env = false) (hsw : swapsWith (.Call (.Attribute (.Call (.Name "super" p0) [] [] p1) "__init__" p2) (e :: es) [] p3) none p4.line X.env = pure false)
    (heq : eval (.Call (.Attribute (.Call (.Name "super" p0) [] [] p1) "__init__" p2) (e :: es) [] p3) X.env = (do
      let ov ← attributeBase (.Call (.Name "super" p0) [] [] p1) "__init__" X.env (eval (.Call (.Name "super" p0) [] [] p1) X.env)
      standAt p2.atName
      let (f, first) ← holding [ov] (getMethod ov "__init__" pl)
      callWith p3 f first (backTo p3 (starEach (e :: es) X.env)) []))
    (he : starEach (e :: es) X.env = (false, eval e X.env) :: starEach es X.env) (hpl : (backTo p3 (starEach es X.env)).any (·.1) = false) :
    _root_.PySem.wpAt (model X.prog X.w) X.A (.func body X.env) (exec (.Expr (.Call (.Attribute (.Call (.Name "super" p0) [] [] p1) "__init__" p2) (e :: es) [] p3) p4) X.env) (fun f s' => f = .next ∧ ∃ H1, Inv X pins σ H1 s' ∧ nx H1) X.xe s := by
  refine ks_wpAt_Expr_any ?_ hi hsw
  refine ks_wpAt_MethodCall ?_ heq
  obtain ⟨nm, q, N, bs, bm, sn, sub, ab, col, dd, k0, k1, k2, k3, k5, hC, hbm⟩ := O.cls
  have hC' := I.kIn _ _ hC
  obtain ⟨cd, hcd⟩ : ∃ cd, PySem.W.clsIn X.K C = some cd := by
    unfold PySem.W.ks_superIn at sup
    cases hc : PySem.W.clsIn X.K C with
    | none => rw [hc] at sup; cases sup
    | some cd => exact ⟨cd, rfl⟩
  have hsup : PySem.W.alongIn X.K "__init__" ((cd.mro.dropWhile (· != .ref C)).drop 1) = some (some (.builtin "ValueError.__init__")) := by
    unfold PySem.W.ks_superIn at sup
    rw [hcd] at sup
    exact sup
  obtain ⟨t1, hoe⟩ := exo_at I.hok ea
  have hnc : ∀ c, (({ cls := .ref C, dict := none, data := .fields #[.ref t1, .none, .none, .none, .bool false, .none] } : Obj)).data ≠ .cls c := fun c z => by cases z
  refine ks_wpAt_super_base hks hkc rfl hfu (I.kIn _ _ lkf) rfl hp hco (I.kIn _ _ lkc) rfl hvs hfile top ?_
  obtain ⟨mb, hb1, hb2⟩ := I.mod.blt
  refine PySem.W.ks_loadName_global I.ok.kind hks (Calls.loadGlobal_builtin (by rw [I.ok.glob]; exact I.mod.glob.keeps I.bk) sG (by rw [I.ok.blt]; exact hb1.keeps I.bk) ((hb2 "super" (by decide)).trans (by decide +kernel)) ⟨rfl, ?_⟩)
  refine wpAny_loadName_free I.ok.kind hkc hcel ⟨_, I.kIn _ _ lkcc, rfl⟩ ?_
  obtain ⟨m, hn, hlk⟩ := id I.loc
  obtain ⟨u0, r0, l0⟩ := hlk 0 ar.arg (.ref a) hN0 hs0 (.inl hk0)
  obtain rfl : u0 = Value.ref a := r0
  have hma : m ar.arg = some (.ref a) := by
    rcases l0 with ⟨_, z⟩ | ⟨z | z, _⟩
    · exact z
    · rw [hk0] at z; cases z
    · rw [hk0] at z; cases z
  refine wpAny_loadName_local I.ok.kind hk0 hn hma ?_
  refine ks_wpAny_isType_cls hC' rfl ⟨rfl, ?_⟩
  obtain ⟨hh, g, d, t, os⟩ := s
  refine ks_wpAny_call_super hC' rfl hoe rfl hnc (PySem.W.looks_mroIn I.kIn mro) (fun h1 e1 kp1 => ?_)
  have I1 : Inv X pins σ H ⟨h1, g, d, t, os⟩ := I.kept (t' := t) kp1
  have hoe1 := kp1 _ _ hoe
  have ne : a ≠ C := fun z => by
    rw [z] at hoe
    have hoe := hoe.symm.trans hC'
    cases hoe
  have hI : PySem.W.Looks (model X.prog X.w) h1 (isInstance (.ref a) (.type "ValueError")) true :=
    (show PySem.W.InstAt h1 a ({ cls := .ref C, dict := none, data := .fields #[.ref t1, .none, .none, .none, .bool false, .none] } : Obj) C none from ⟨hoe1, rfl, rfl, trivial⟩).type.andThen (PySem.W.looks_subIn I1.kIn sVE)
  refine PySem.W.kxs_getMethod PySem.W.kxs_ValueError e1 (PySem.W.looks_opaque I1.kIn opq) (l₀ := cd.mro) (fun A Q E s k q => wpAny_bind ((PySem.W.looks_clsIn I1.kIn hcd) A _ E s k (wpAny_pure q))) rfl I1.kIn hsup hI ne rfl ?_
  have kp2 : ∀ b o, h1.get? b = some o → (h1.push (PySem.W.kxs_mw "ValueError.__init__" a)).get? b = some o := fun b o z => Heap.get?_push_of_some _ z
  have hu2 : (h1.push (PySem.W.kxs_mw "ValueError.__init__" a)).get? h1.objs.size = some (PySem.W.kxs_mw "ValueError.__init__" a) := Heap.get?_push_at rfl rfl
  have I2 : Inv X pins σ H ⟨h1.push (PySem.W.kxs_mw "ValueError.__init__" a), g, d, t + 1, os⟩ := I1.kept (t' := t + 1) kp2
  have nH : H h1.objs.size = none := I1.hok.fresh (Nat.le_refl _)
  have I3 : Inv X ((h1.objs.size, PySem.W.kxs_mw "ValueError.__init__" a) :: pins) σ H ⟨h1.push (PySem.W.kxs_mw "ValueError.__init__" a), g, d, t + 1, os⟩ := I2.pins_of fun p hp => by
    rcases List.mem_cons.mp hp with rfl | hp
    · exact ⟨hu2, nH, Nat.ne_of_gt I1.lt, I1.nofs (Nat.le_refl _), fun v z => by cases z⟩
    · exact I2.pin p (List.mem_append_right _ hp)
  show wpAny _ _ (callWith p3 (.ref h1.objs.size) [] (backTo p3 (starEach (e :: es) X.env)) []) _ _ _
  rw [he]
  refine PySem.W.kxs_callWith (i := "ValueError.__init__") (x := a) (by show (false || (backTo p3 (starEach es X.env)).any (·.1)) = false; rw [hpl]; rfl) ?_
  refine Calls.evalArgs_plain ?_
  show wpAny _ _ (spliced (backTo p3 ((false, eval e X.env) :: starEach es X.env))) _ _ _
  rw [← he]
  refine thn (hpa.run p3 _ _ σ H _ I3 h) fun us s4 ⟨vs4, H4, I4, r4, e4, l4, q4⟩ => ?_
  have hu4 := (I4.pin _ (List.mem_append_right _ List.mem_cons_self)).1
  have I5 : Inv X pins σ H4 s4 := I4.pins_of fun p hp => I4.pin p (List.mem_append_right _ (List.mem_cons_of_mem _ hp))
  refine ⟨hu4, ?_⟩
  refine sup_call O I5 e4 hu4 ?_ fun s5 J => ⟨rfl, H4, J, q4⟩
  show us.length ≤ sizeLine
  rw [← Paired.length r4, sizeLine_eq]
  omega
end
/-- an exception's own __init__ by its body -/
theorem fn_ofI {CX : CXT} {P : Program} {w : World} {K : PySem.W.Frag} {mg : Str → Option Value} {base : Heap} {k : Nat} {C fI : Addr} {qual : Str} {st : Stmt} {fd : FuncData} {N ps : List Str} {ar : Arg} {sp : Sp} {ex : Expr} {es : List Expr} {rest : List Stmt} {p0 p1 p2 p3 p4 : Pos}
    (T : Sup P K mg C fI qual st fd) (S : NScope N ps ["__class__"] (defScope st)) (har : ((defArgs st).posonlyargs ++ (defArgs st).args).head? = some ar) (hps : ps[0]? = some ar.arg) (hsu : (defScope st).names.lookup ("super" : Str) = some .globalImplicit)
    (len : ∀ vs H Q E, sp vs H Q E → vs.length = ps.length)
    (hst : defBody st = .Expr (.Call (.Attribute (.Call (.Name "super" p0) [] [] p1) "__init__" p2) (ex :: es) [] p3) p4 :: rest)
    (hside : ∀ (cc cda L : Addr), interactive (envF ⟨"__init__", qual, defArgs st, defBody st, defScope st, [("__class__", cc)], cda⟩ fI L) = false ∧
      swapsWith (.Call (.Attribute (.Call (.Name "super" p0) [] [] p1) "__init__" p2) (ex :: es) [] p3) none p4.line (envF ⟨"__init__", qual, defArgs st, defBody st, defScope st, [("__class__", cc)], cda⟩ fI L) = pure false ∧
      (∃ pl : Sem Bool, eval (.Call (.Attribute (.Call (.Name "super" p0) [] [] p1) "__init__" p2) (ex :: es) [] p3) (envF ⟨"__init__", qual, defArgs st, defBody st, defScope st, [("__class__", cc)], cda⟩ fI L) = (do
        let ov ← attributeBase (.Call (.Name "super" p0) [] [] p1) "__init__" (envF ⟨"__init__", qual, defArgs st, defBody st, defScope st, [("__class__", cc)], cda⟩ fI L) (eval (.Call (.Name "super" p0) [] [] p1) (envF ⟨"__init__", qual, defArgs st, defBody st, defScope st, [("__class__", cc)], cda⟩ fI L))
        standAt p2.atName
        let (f, first) ← holding [ov] (getMethod ov "__init__" pl)
        callWith p3 f first (backTo p3 (starEach (ex :: es) (envF ⟨"__init__", qual, defArgs st, defBody st, defScope st, [("__class__", cc)], cda⟩ fI L))) [])) ∧
      starEach (ex :: es) (envF ⟨"__init__", qual, defArgs st, defBody st, defScope st, [("__class__", cc)], cda⟩ fI L) = (false, eval ex (envF ⟨"__init__", qual, defArgs st, defBody st, defScope st, [("__class__", cc)], cda⟩ fI L)) :: starEach es (envF ⟨"__init__", qual, defArgs st, defBody st, defScope st, [("__class__", cc)], cda⟩ fI L) ∧
      (backTo p3 (starEach es (envF ⟨"__init__", qual, defArgs st, defBody st, defScope st, [("__class__", cc)], cda⟩ fI L))).any (·.1) = false)
    (hbody : ∀ (cc cda : Addr) (A : Around) (outer : List Env) (s : Shared) (H : Hp) (vs : List V) (Q : VK) (E : XK), Room k (A.deeper (envF ⟨"__init__", qual, defArgs st, defBody st, defScope st, [("__class__", cc)], cda⟩ fI s.heap.objs.size)) → sp vs H Q E →
      ∃ (a : Addr) (vs' : List V) (ta : TA) (t : TS), vs = .ref a :: vs' ∧ H a = some (exo a C none) ∧ PA (ncx CX P w K mg base N ⟨"__init__", qual, defArgs st, defBody st, defScope st, [("__class__", cc)], cda⟩ fI A outer s H E) (ex :: es) ta ∧
        PSs (ncx CX P w K mg base N ⟨"__init__", qual, defArgs st, defBody st, defScope st, [("__class__", cc)], cda⟩ fI A outer s H E) rest t ∧
        ta (startF N vs [none]) H fun us H1 => H1 a = some (exo a C none) ∧ us.length ≤ 1000 ∧ t { nx := fun _ H' => Q .non H', rt := Q } (startF N vs [none]) H1) :
    FnOk P w K mg base CX (k + 1) fI fd ps sp := by
  obtain ⟨oc, od, kV, doc, pm, ct, an, osl, cc, cda, ccl, cl, cdd, cld, vs2, ccs, csl, file, tf, efd, lkf, hcd, lkc, hvs, hfile, lkcc⟩ := T.ex
  subst efd
  refine ⟨len, fun A outer s H args us vs Q E hr e0 hb r hsp => ?_⟩
  have hl := len _ _ _ _ hsp
  have KX : K.In s.heap := e0.mod.kin.keeps fun b o e => (e0.bs b o e).1
  have lim : s.heap.NoLimit := e0.mod.nolimit.keeps fun b o e => (e0.bs b o e).1
  have hloc : ∀ y ∈ ps.zip us, (defScope st).names.lookup y.1 = some .local := fun ⟨n, _⟩ hy => S.par n (List.of_mem_zip hy).1
  obtain ⟨h1, h2, ⟨pl, h3⟩, h4, h5⟩ := hside cc cda s.heap.objs.size
  refine ks_codeAny_call_defAt (fd := PySem.W.fnX "__init__" qual (defArgs st) (defBody st) (defScope st) [("__class__", cc)] .none kV doc pm an (.ref cda) ct) (body := defBody st) (binds := ps.zip us) hr.depth (KX _ _ lkf) rfl lim (PySem.W.codeRec_of KX hcd) rfl hb S.nocell hloc (fun h₁ hns kp => ?_) S.co S.gen S.kind
  have C0 : CellsAt [(("__class__" : Str), cc)] ["__class__"] [none] s.heap H := by
    have bc := e0.mod.kin _ _ lkcc
    have hc := e0.bs _ _ bc
    have look1 : ∀ {y : Str} {c : Addr}, List.lookup y [(("__class__" : Str), cc)] = some c → y = "__class__" ∧ c = cc := fun {y c} z => by
      by_cases hy : y = ("__class__" : Str)
      · subst hy
        simp [List.lookup] at z
        exact ⟨rfl, z.symm⟩
      · have e : (y == ("__class__" : Str)) = false := by simpa using hy
        simp [List.lookup, e] at z
    refine ⟨rfl, fun y c z => ?_, fun x y c z1 z2 => (look1 z1).1.trans (look1 z2).1.symm, fun i y z => ?_⟩
    · obtain ⟨_, rfl⟩ := look1 z
      exact ⟨hc.2, _, _, hc.1, rfl⟩
    · cases i with
      | zero =>
        have e : ("__class__" : Str) = y := by simpa using z
        subst e
        exact ⟨cc, by simp [List.lookup], fun v q => by simp at q⟩
      | succ i => simp at z
  have I : Inv (ncx CX P w K mg base N ⟨"__init__", qual, defArgs st, defBody st, defScope st, [("__class__", cc)], cda⟩ fI A outer s H E) [] (startF N vs [none]) H { s with heap := h₁, toks := s.toks + (ps.zip us).length } := inv_startN S hr.hd e0 hl r C0 hns kp
  obtain ⟨a, vs', ta, t, evs, ea, hpa, hrest, hq⟩ := hbody cc cda A outer s H vs Q E (hr.deeper _) hsp
  have hN0 : N[0]? = some ar.arg := by
    have hpre := S.pre
    have q : (ps ++ [("__class__" : Str)])[0]? = some ar.arg := by
      rw [List.getElem?_append_left (by
        cases ps with
        | nil => simp at hps
        | cons _ _ => simp)]
      exact hps
    rw [← hpre, List.getElem?_take_of_lt (by simp)] at q
    exact q
  have hs0 : (startF N vs [none])[0]? = some (some (.ref a)) := by
    rw [evs]
    rfl
  have hloc0 : (defScope st).names.lookup ar.arg = some .local := S.par _ (List.mem_of_getElem? hps)
  have fin : ∀ {σ' : L2.St} {H' : Hp} {v : V} {u : Value} {s' : Shared}, Inv (ncx CX P w K mg base N ⟨"__init__", qual, defArgs st, defBody st, defScope st, [("__class__", cc)], cda⟩ fI A outer s H E) [] σ' H' s' → L2.RelV v u → Q v H' → CE outer P w H s Q u s' :=
    fun {σ' H' v u s'} J rv q => ⟨v, H', J.os, J.bare, J.base, J.hok, rv, q⟩
  have sup := sup_stmt (X := ncx CX P w K mg base N ⟨"__init__", qual, defArgs st, defBody st, defScope st, [("__class__", cc)], cda⟩ fI A outer s H E) (body := defBody st) (p0 := p0) (p1 := p1) (p2 := p2) (p3 := p3) (p4 := p4) (pl := pl) (e := ex) (es := es) (C := C) (a := a)
    (nx := fun H1 => t { nx := fun _ H' => Q .non H', rt := Q } (startF N vs [none]) H1) (fI := fI) (cda := cda) (cc := cc) (ar := ar) (vs := vs2) (file := file) (tf := tf)
    T.O rfl lkf har rfl lkc hvs hfile (by rfl) lkcc hsu (S.frk _ List.mem_cons_self) hloc0 hN0 T.sup T.opq T.sVE T.mro T.sG T.top hpa I hs0 ea hq h1 h2 h3 h4 h5
  show _root_.PySem.wpAt (model P w) (A.deeper (envF ⟨"__init__", qual, defArgs st, defBody st, defScope st, [("__class__", cc)], cda⟩ fI s.heap.objs.size)) (.func (defBody st) (envF ⟨"__init__", qual, defArgs st, defBody st, defScope st, [("__class__", cc)], cda⟩ fI s.heap.objs.size))
    (execs (defBody st) (envF ⟨"__init__", qual, defArgs st, defBody st, defScope st, [("__class__", cc)], cda⟩ fI s.heap.objs.size)) _ _ _
  have sp2 : ∀ (stmts : List Stmt), stmts = .Expr (.Call (.Attribute (.Call (.Name "super" p0) [] [] p1) "__init__" p2) (ex :: es) [] p3) p4 :: rest →
      _root_.PySem.wpAt (model P w) (A.deeper (envF ⟨"__init__", qual, defArgs st, defBody st, defScope st, [("__class__", cc)], cda⟩ fI s.heap.objs.size)) (.func (defBody st) (envF ⟨"__init__", qual, defArgs st, defBody st, defScope st, [("__class__", cc)], cda⟩ fI s.heap.objs.size))
        (execs stmts (envF ⟨"__init__", qual, defArgs st, defBody st, defScope st, [("__class__", cc)], cda⟩ fI s.heap.objs.size)) (fun f s' => CR CX outer P w H s Q E (.ok (.ret (match f with | .ret v => v | _ => .none))) s')
        (ncx CX P w K mg base N ⟨"__init__", qual, defArgs st, defBody st, defScope st, [("__class__", cc)], cda⟩ fI A outer s H E).xe { s with heap := h₁, toks := s.toks + (ps.zip us).length } := fun stmts es' => by
    subst es'
    refine ks_wpAt_execs_cons (ks_wpAt_mono sup (fun f s' ⟨ef, H1, J, q⟩ => ?_) fun _ _ z => z)
    subst ef
    refine PySem.wpAt_of_wpAny (wpAny_mono (hrest.run [] s' _ H1 _ J q) (fun fl s2 hs => ?_) fun e s' hs => hs)
    cases fl with
    | ret u =>
      obtain ⟨v, σ', H', J, rv, q⟩ := hs
      exact fin J rv q
    | next =>
      obtain ⟨σ', H', J, q⟩ := hs
      exact fin (v := V.non) (u := Value.none) J rfl q
    | brk =>
      obtain ⟨_, _, _, q⟩ := hs
      exact False.elim q
    | cont =>
      obtain ⟨_, _, _, q⟩ := hs
      exact False.elim q
  exact sp2 (defBody st) hst
end GX

set_option Elab.async false
set_option linter.all false
set_option maxRecDepth 100000
set_option maxHeartbeats 4000000
namespace GX
open PySem PySem.Spec PyProof.Rows L2
/-- behind a suite whose name goes -/
def endsA (D : Ends) (i : Nat) : Ends := { nx := fun σ' H' => D.nx (σ'.set i none) H', rt := D.rt, bk := fun σ' H' => D.bk (σ'.set i none) H', ct := fun σ' H' => D.ct (σ'.set i none) H' }
/-- what the clauses, named ones too, wish of an exception of the body, one after the other -/
def wManyA (K : PySem.W.Frag) (Wout : WX) (D : Ends) : List (Value × Option Nat × (Addr → Value → Option Addr → TS)) → WX
  | [] => Wout
  | (c, .none, ts) :: r => fun cls d σ H => ∃ b, PySem.W.exmOne K cls c = some b ∧ (b = true → ∀ a, H a = none → ts a cls d D σ H) ∧ (b = false → wManyA K Wout D r cls d σ H)
  | (c, .some i, ts) :: r => fun cls d σ H => ∃ b, PySem.W.exmOne K cls c = some b ∧ (b = true → ∀ a, H a = none → ts a cls d (endsA D i) (σ.set i (some (.ref a))) H) ∧ (b = false → wManyA K Wout D r cls d σ H)
inductive HdsA (X : Cx) : List ExceptHandler → List (Value × Option Nat × (Addr → Value → Option Addr → TS)) → Prop
  | nil : HdsA X [] []
  | plain {x : Str} {c : Value} {ts : Addr → Value → Option Addr → TS} {b₀ : Stmt} {suite : List Stmt} {np pos' : Pos} {hds : List ExceptHandler} {l : List (Value × Option Nat × (Addr → Value → Option Addr → TS))} (hc : Names X x c)
      (hsu : ∀ (a : Addr) (oe : Obj) (cls : Value) (d : Option Addr) (pn : List (Addr × Obj)), Zc cls d oe → (∃ vs, oe.data = .fields vs) → PSs (X.suite a ((a, oe) :: pn)) (b₀ :: suite) (ts a cls d)) (r : HdsA X hds l) :
      HdsA X (.ExceptHandler (some (.Name x np)) none (b₀ :: suite) pos' :: hds) ((c, .none, ts) :: l)
  | named {x n : Str} {i : Nat} {c : Value} {ts : Addr → Value → Option Addr → TS} {b₀ : Stmt} {suite : List Stmt} {np pos' : Pos} {hds : List ExceptHandler} {l : List (Value × Option Nat × (Addr → Value → Option Addr → TS))} (hc : Names X x c)
      (hi : X.N[i]? = some n) (hln : X.env.kindOf n = some .local)
      (hsu : ∀ (a : Addr) (oe : Obj) (cls : Value) (d : Option Addr) (pn : List (Addr × Obj)), Zc cls d oe → (∃ vs, oe.data = .fields vs) → PSs (X.suite a ((a, oe) :: pn)) (b₀ :: suite) (ts a cls d)) (r : HdsA X hds l) :
      HdsA X (.ExceptHandler (some (.Name x np)) (some n) (b₀ :: suite) pos' :: hds) ((c, .some i, ts) :: l)
section
variable {X : Cx} {body : List Stmt} {h₀ : ExceptHandler} {hds : List ExceptHandler} {l : List (Value × Option Nat × (Addr → Value → Option Addr → TS))} {pos : Pos} {tb : WX → TS} {Wout : WX}
theorem ps_try_manyA (hs : X.stack = X.env :: X.outer) (hf : X.env.frame = some X.env.locals) (hN : X.N.Nodup) (tk : Takes X Wout)
    (hb : ∀ (W : WX) (pn : List (Addr × Obj)) (xe : Value → Shared → Prop), Takes (X.tr pn xe) W → PassesOwn (model X.prog X.w) X.A X.env xe → PSs (X.tr pn xe) body (tb W))
    (hh : HdsA X (h₀ :: hds) l) : PS X (.Try body (h₀ :: hds) [] [] pos) (fun D σ H => tb (wManyA X.K Wout D l) D σ H) := by
  refine ⟨fun pins s σ H D I h => ?_⟩
  have ok := I.ok
  have hfr : X.A.frames = some (X.env :: X.outer) := by rw [ok.frames, hs]
  refine wpAny_Try_except ?_
  refine wpAny_mono ((hb (wManyA X.K Wout D l) (X.pn ++ pins) (fun e s₁ => wpAny (model X.prog X.w) X.A (noteFrame e X.env) (fun _ s₂ => wpAny (model X.prog X.w) X.A (setFlight e none) (fun _ s₃ =>
    wpAny (model X.prog X.w) X.A (handleBy e X.env (h₀ :: hds)) (SP X pins D) X.xe s₃) X.xe s₂) X.xe s₁) (fun u s' xx => ?_) PassesOwn.looking).run [] s σ H D (I.toTry _) h) (fun f s1 hsp => ?_) (fun e s1 he => he)
  · obtain ⟨a, B, sI, pins', σ', H', cls, d, rfl, J', nb, up, sky, na, os, ag, w⟩ := xx
    have J : Inv X pins σ' H' sI := J'.ofTry ok
    have sky' : Sky B (X.env :: X.outer) a (Zc cls d) X.env.locals s'.heap := by rw [← hs]; exact sky
    show wpAny (model X.prog X.w) X.A (noteFrame (.ref a) X.env) _ _ _
    refine Sky.land Zc.steady hfr hf sky' fun h3 fl3 up3 => ?_
    have J3 : Inv X pins σ' H' { s' with heap := h3 } := J.landed nb fl3.1 (up.trans up3) os ag
    obtain ⟨oe3, vs3, he3, hz3, hd3⟩ := fl3.there
    have notFr : ∀ {h : Heap} {o : Obj} {vs : Array Value}, h.FunFrames B (X.env :: X.outer) → h.get? a = some o → o.data = .fields vs → a ∉ frs (X.env :: X.outer) := fun {h o vs} ff e dd hm => by
      obtain ⟨_, o', e', hnf⟩ := ff.mem hm
      rw [e] at e'; cases e'
      exact hnf _ dd
    have nfr := notFr fl3.2.2.1 he3 hd3
    have nL : a ≠ X.env.locals := fun z => nfr (List.mem_filterMap.mpr ⟨X.env, List.mem_cons_self, by rw [hf, z]⟩)
    have nF : a ∉ X.fs := fun hm => by
      obtain ⟨e, he, q⟩ := List.mem_filterMap.mp hm
      exact nfr (List.mem_filterMap.mpr ⟨e, List.mem_cons_of_mem _ he, q⟩)
    have S3 := J3.suite he3 hd3 na nL nF
    have LT : PySem.W.Looks (model X.prog X.w) h3 (typeOf (.ref a)) cls := fun A Q E s k q => wpAny_typeOf_ref (k _ _ he3) (by rw [hz3.1]; exact q)
    have test : ∀ {x : Str} {c : Value} {np : Pos} {Q : Value → Shared → Prop} {E : Value → Shared → Prop}, Names X x c → Q c { s' with heap := h3 } → wpAny (model X.prog X.w) (X.A.mark (some (.ref a))) (eval (.Name x np) X.env) Q E { s' with heap := h3 } := fun {x c np Q E} hc q => by
      obtain ⟨hg, hdbg, hm | ⟨hm, hv, hnn⟩⟩ := hc
      · exact ld_glob (X := X.suite a ((a, oe3) :: (X.pn ++ pins))) S3 hg hm q hdbg
      · exact ld_blt (X := X.suite a ((a, oe3) :: (X.pn ++ pins))) S3 hg hm hv q hnn hdbg
    have go : ∀ {hds' : List ExceptHandler} {l' : List (Value × Option Nat × (Addr → Value → Option Addr → TS))}, HdsA X hds' l' → wManyA X.K Wout D l' cls d σ' H' →
        wpAny (model X.prog X.w) X.A (handleBy (.ref a) X.env hds') (SP X pins D) X.xe { s' with heap := h3 } := by
      intro hds' l' hk
      induction hk with
      | nil =>
        intro w
        refine wpAny_handleBy_nil ?_
        obtain ⟨k1, k2, k3, oe, vs, T, oT, ts', he, hz, hd, h1, hr⟩ := id fl3
        unfold PySem.passOn
        refine wpAny_bind (wpAny_field he hd h1 ?_)
        rw [if_neg (show ¬ ((Value.ref T == Value.none) = true) from by simp)]
        have fin : wpAny (model X.prog X.w) X.A (setFlight (.ref a) X.env.frame) (fun _ s4 => wpAny (model X.prog X.w) X.A (throw (.ref a) : Sem Flow) (SP X pins D) X.xe s4) X.xe { s' with heap := h3 } := by
          rw [hf]
          refine HandSPX.setFlight_upZ fl3 fun h4 hh4 up4 => wpAny_throw (tk _ _ ?_)
          exact ⟨a, B, sI, pins, σ', H', cls, d, rfl, J, nb, (up.trans up3).trans up4, .inr (.inr (by rw [hs]; exact hh4)), na, os, ag, w⟩
        first
          | exact wpAny_bind (wpAny_pure (wpAny_bind fin))
          | exact wpAny_bind fin
      | @plain x c ts b₀ suite np pos' hds2 l2 hc hsu r ih =>
        intro w
        obtain ⟨b, hb1, hyes, hno⟩ := w
        refine wpAny_handleBy_cons (codeAny_handlers_test ?_) (by intro q; cases q)
        have LM := PySem.W.exm_one (M := model X.prog X.w) (J3.kIn) LT hb1
        refine test hc (LM.here ?_)
        cases b with
        | true =>
          refine codeAny_handlers_suite ?_
          refine HandSPX.lands_againZ fl3 fun h4 fl4 up4 => ?_
          have J4 : Inv X pins σ' H' { s' with heap := h4 } := J.landed nb fl4.1 ((up.trans up3).trans up4) os ag
          obtain ⟨oe4, vs4, he4, hz4, hd4⟩ := fl4.there
          have S4 := J4.suite he4 hd4 na nL nF
          refine wpAny_mono ((hsu a oe4 cls d (X.pn ++ pins) hz4 ⟨_, hd4⟩).run [] _ _ H' _ S4 (hyes rfl a na)) (fun f s6 hsp => ?_) (fun _ _ z => False.elim z)
          cases f with
          | next =>
            obtain ⟨σ6, H6, S6, q6⟩ := hsp
            exact ⟨_, _, S6.unsuite ok, q6⟩
          | brk =>
            obtain ⟨σ6, H6, S6, q6⟩ := hsp
            exact ⟨_, _, S6.unsuite ok, q6⟩
          | cont =>
            obtain ⟨σ6, H6, S6, q6⟩ := hsp
            exact ⟨_, _, S6.unsuite ok, q6⟩
          | ret u =>
            obtain ⟨v6, σ6, H6, S6, r6, q6⟩ := hsp
            exact ⟨_, _, _, S6.unsuite ok, r6, q6⟩
        | false =>
          show wpAny _ X.A (handleBy (.ref a) X.env hds2) _ _ _
          exact ih (hno rfl)
      | @named x n i c ts b₀ suite np pos' hds2 l2 hc hi hln hsu r ih =>
        intro w
        obtain ⟨b, hb1, hyes, hno⟩ := w
        have hloc : Loc X.env.scope n := .inl hln
        refine wpAny_handleBy_cons (codeAny_handlers_test ?_) (by intro q; cases q)
        have LM := PySem.W.exm_one (M := model X.prog X.w) (J3.kIn) LT hb1
        refine test hc (LM.here ?_)
        cases b with
        | true =>
          refine codeAny_handlers_suite_as ?_
          refine HandSPX.lands_againZ fl3 fun h4 fl4 up4 => ?_
          have J4 : Inv X pins σ' H' { s' with heap := h4 } := J.landed nb fl4.1 ((up.trans up3).trans up4) os ag
          obtain ⟨oe4, vs4, he4, hz4, hd4⟩ := fl4.there
          have S4 := J4.suite he4 hd4 na nL nF
          refine store_ok (X := X.suite a ((a, oe4) :: (X.pn ++ pins))) (v := .ref a) S4 hN hi hloc rfl (fun s5 S5 => ?_) (.inr hln)
          refine wpAny_mono ((hsu a oe4 cls d (X.pn ++ pins) hz4 ⟨_, hd4⟩).run [] s5 _ H' _ S5 (hyes rfl a na)) (fun f s6 hsp => ?_) (fun _ _ z => False.elim z)
          have end_ : ∀ {σ6 : L2.St} {H6 : Hp} {Q : Shared → Prop}, Inv (X.suite a ((a, oe4) :: (X.pn ++ pins))) [] σ6 H6 s6 → (∀ s7, Inv X pins (σ6.set i none) H6 s7 → Q s7) →
              wpAny (model X.prog X.w) X.A (do bindName X.env n .none; unbindBehindTheSuite X.env n pos') (fun _ s7 => Q s7) X.xe s6 := fun {σ6 H6 Q} S6 hq => gone_ok (S6.unsuite ok) hN hi hln hq
          cases f with
          | next =>
            obtain ⟨σ6, H6, S6, q6⟩ := hsp
            exact end_ S6 fun s7 J7 => ⟨_, _, J7, q6⟩
          | brk =>
            obtain ⟨σ6, H6, S6, q6⟩ := hsp
            exact end_ S6 fun s7 J7 => ⟨_, _, J7, q6⟩
          | cont =>
            obtain ⟨σ6, H6, S6, q6⟩ := hsp
            exact end_ S6 fun s7 J7 => ⟨_, _, J7, q6⟩
          | ret u =>
            obtain ⟨v6, σ6, H6, S6, r6, q6⟩ := hsp
            exact end_ S6 fun s7 J7 => ⟨_, _, _, J7, r6, q6⟩
        | false =>
          show wpAny _ X.A (handleBy (.ref a) X.env hds2) _ _ _
          exact ih (hno rfl)
    exact go hh w
  · cases f with
    | next =>
      obtain ⟨σ', H', J', q⟩ := hsp
      exact wpAny_execs_nil ⟨σ', H', J'.ofTry ok, q⟩
    | brk =>
      obtain ⟨σ', H', J', q⟩ := hsp
      exact ⟨σ', H', J'.ofTry ok, q⟩
    | cont =>
      obtain ⟨σ', H', J', q⟩ := hsp
      exact ⟨σ', H', J'.ofTry ok, q⟩
    | ret u =>
      obtain ⟨v, σ', H', J', r, q⟩ := hsp
      exact ⟨v, σ', H', J'.ofTry ok, r, q⟩
end
end GX

set_option Elab.async false
set_option linter.all false
set_option maxRecDepth 100000
set_option maxHeartbeats 4000000
namespace PySem
set_option maxHeartbeats 1000000 in
theorem gx_meets_enumerate_newB1 {v : Value} {o : Obj} {H : Heap → Prop} (B : Begins v o H) :
    Meets (Builtin.«enumerate.__new__» ⟨[.type "enumerate", v], []⟩) (fun _ R s => H s.heap ∧
      R (.ok (.ret (.ref (s.heap.push o).objs.size))) { s with heap := (s.heap.push o).push { cls := .type "enumerate", data := .fields #[.none, .bool false, .ref s.heap.objs.size, rawInt 0, .none, .none] } }) :=
  .of_wp fun prog w A R s h => by
    obtain ⟨hp, g, d, tk, os⟩ := s; obtain ⟨h1, h⟩ := h
    have hsub := sub_enumerate
    have q1 : ∀ {A' : Around} {E : Value → Shared → Prop} {Q : Value → Shared → Prop}, Q (.ref hp.objs.size) ⟨hp.push o, g, d, tk, os⟩ → wpAny (model prog w) A' (pyIter v) Q E ⟨hp, g, d, tk, os⟩ :=
      fun q => B.iter prog w _ _ ⟨hp, g, d, tk, os⟩ _ h1 q
    wp_walk using q1
    refine wpAny_stack_any fun st => wpAny_pure ?_
    split
    · rename_i c _ _ _ _ _
      cases (c == Value.type "enumerate")
      · wp_walk using q1
        exact ⟨_, rfl, h⟩
      · wp_walk using q1
        exact ⟨_, rfl, h⟩
    · wp_walk using q1
      exact ⟨_, rfl, h⟩
theorem gx_enum1 {prog : Program} {w : World} {A : Around} {E : Value → Shared → Prop} {s : Shared} {v : Value} {o : Obj} {H : Heap → Prop} {Q : Value → Shared → Prop} (B : Begins v o H) (h1 : H s.heap)
    (h : ∀ h', IsEnum h' (s.heap.objs.size + 1) s.heap.objs.size 0 .none → h'.get? s.heap.objs.size = some o → h'.objs.size = s.heap.objs.size + 2 →
      (∀ b o, s.heap.get? b = some o → h'.get? b = some o) → Q (.ref (s.heap.objs.size + 1)) { s with heap := h' }) :
    wpAny (model prog w) A (call (.type "enumerate") [v]) Q E s := by
  refine callType_new F.called_enumerate (by decide) (F.typeCall_enumerate_1 _) (F.newCall_enumerate_1 _) (fun obj => F.args_object_init_2 obj _) F.entry_enumerate_new
    (gx_meets_enumerate_newB1 B) ⟨h1, ?_⟩
  have hz : (s.heap.push o).objs.size = s.heap.objs.size + 1 := Heap.size_push ..
  show _ ∧ _
  rw [hz]
  have he : IsEnum ((s.heap.push o).push { cls := .type "enumerate", data := .fields #[.none, .bool false, .ref s.heap.objs.size, rawInt 0, .none, .none] }) (s.heap.objs.size + 1) s.heap.objs.size 0 .none := by
    have := Heap.get?_push_size (s.heap.push o) (o := { cls := .type "enumerate", data := .fields #[.none, .bool false, .ref s.heap.objs.size, rawInt 0, .none, .none] }) rfl
    rw [hz] at this; exact this
  refine ⟨⟨_, he, rfl⟩, h _ he (Heap.get?_push_of_some _ (Heap.get?_push_size _ B.free)) (by rw [Heap.size_push, hz]) fun b o x => Heap.get?_push_of_some _ (Heap.get?_push_of_some _ x)⟩
end PySem
namespace GX
open PySem PySem.Spec PyProof.Rows L2
/-! ### enumerate(tuple) -/
def IteT (K : PySem.W.Frag) (a : Addr) : It :=
  ⟨fun i H => ∃ (xs : List V) (x : V), SqT K H a xs ∧ xs[i]? = some x, fun i H v H' => ∃ T x, v = .ref T ∧ H T = none ∧ H' = upd H T (.tup [.int (i : Nat), x]) ∧ ∀ xs, SqT K H a xs → xs[i]? = some x, fun i H => ∃ xs : List V, SqT K H a xs ∧ xs.length = i⟩
theorem turn_enumT {P : Program} {w : World} {K : PySem.W.Frag} {elts : List Expr} {kk : Nat} {tpos : Pos} (a e it : Addr) :
    Turn P w K (.Tuple elts kk tpos) (IteT K a) [e, it] e (fun i h => (∃ old, IsEnum h e it ((i : Nat) : Int) old) ∧ h.IsTupleIter it a i ∧ e ≠ it ∧ a ≠ e ∧ a ≠ it) where
  mem := by simp
  obj := fun i h st b hb => by
    obtain ⟨⟨old, he⟩, ⟨o, ho, hc, hd⟩, _⟩ := st
    have e' : b = e ∨ b = it := by simpa using hb
    rcases e' with z | z
    · rw [z]; exact ⟨_, he, fun v q => nomatch q⟩
    · rw [z]; exact ⟨o, ho, fun v q => by rw [hd] at q; cases q⟩
  keep := fun i h h' st k => let ⟨⟨old, he⟩, hi, hne⟩ := st; ⟨⟨old, k e (by simp) _ he⟩, hi.at fun o q => k it (by simp) o q, hne⟩
  item := by
    intro X hP hw hK hc i pins s σ H E I hf st hg
    subst hP hw hK
    obtain ⟨⟨old, he⟩, hit, hne, hae, hai⟩ := st
    obtain ⟨xs, x, hq, hx⟩ := hg
    obtain ⟨its, rv, p, hz⟩ := I.tuple hq
    obtain ⟨u, hu, ru⟩ := rv.get hx
    have hel : e < s.heap.objs.size := Heap.lt_size he
    have hil : it < s.heap.objs.size := by obtain ⟨_, q, _⟩ := hit; exact Heap.lt_size q
    have D := Draws.tuple (prog := X.prog) (w := X.w) (A := X.A.in1) (show X.A.in1.handled = none from I.ok.hd hc) it a hai its.toArray
    have hlt : i < its.toArray.size := by
      rcases Nat.lt_or_ge i its.toArray.size with z | z
      · exact z
      · have z' : its.length ≤ i := by simpa using z
        rw [List.getElem?_eq_none z'] at hu
        cases hu
    refine wpAny_pyNext_enum_itemD D he ⟨hit, (show s.heap.IsTuple a its.toArray from p)⟩ hlt hne (by simp [hne, Ne.symm hae]) fun x1 h' tk hx1 ho hst hT hsz hk => ?_
    have ex1 : x1 = u := by
      have q : its[i]? = some x1 := by simpa using hx1
      rw [hu] at q
      exact (Option.some.inj q).symm
    subst ex1
    refine ⟨_, rfl, wpAny_letOwnedTupleGo_enum (s := { s with heap := h', toks := tk + 1 }) ho fun h'' he' sb => ?_⟩
    have hT2 : h''.get? s.heap.objs.size = some { cls := .type "tuple", data := .seq #[.int i tk, x1] } := (sb.2 _ (Nat.ne_of_gt hel)).trans hT
    have new : ObjOk X.prog X.w (upd H s.heap.objs.size (.tup [.int (i : Nat), x])) h'' s.heap.objs.size (.tup [.int (i : Nat), x]) :=
      ⟨by show 2 ≤ sizeLine; decide, [.int i tk, x1], .cons ⟨_, rfl⟩ (.cons ru .nil), ⟨_, hT2, rfl, _, rfl⟩⟩
    have I1 : Inv X pins σ (upd H s.heap.objs.size (.tup [.int (i : Nat), x])) { s with heap := h'', toks := tk + 1 } :=
      I.turnedNew (ch := [e, it]) (fun b ob hb q => (sb.2 b (fun z => hb (by simp [z]))).trans (hk b ob (fun z => hb (by simp [z])) (fun z => hb (by simp [z])) q)) hf (Nat.le_refl _) new
    refine ⟨.ref s.heap.objs.size, _, I1, rfl, ⟨_, x, rfl, I.hok.fresh (Nat.le_refl _), rfl, fun ys hy => by rw [I.tuple_inj hy hq]; exact hx⟩, ⟨⟨x1, ?_⟩, hst.1.at fun o q => (sb.2 it (Ne.symm hne)).trans q, hne, hae, hai⟩, fun b hb => ?_⟩
    · have e1 : ((i + 1 : Nat) : Int) = (i : Int) + 1 := by omega
      rw [e1]; exact he'
    · have hb' : b < s.heap.objs.size := by
        have e' : b = e ∨ b = it := by simpa using hb
        rcases e' with z | z
        · rw [z]; exact hel
        · rw [z]; exact hil
      rw [upd_ne (Nat.ne_of_lt hb')]
      exact (hf b hb).1
  done := by
    intro X hP hw hK hc i pins s σ H E I hf st hg
    subst hP hw hK
    obtain ⟨⟨old, he⟩, hit, hne, hae, hai⟩ := st
    obtain ⟨xs, hq, hx⟩ := hg
    obtain ⟨its, rv, p, hz⟩ := I.tuple hq
    obtain ⟨f0, f1, f2, f3, f4, f5⟩ := hf it (by simp)
    have hl := rv.length
    have D := Draws.tuple (prog := X.prog) (w := X.w) (A := X.A.in1) (show X.A.in1.handled = none from I.ok.hd hc) it a hai its.toArray
    have e0 : its.toArray.size = i := by simp; omega
    exact wpAny_pyNext_enum_endD D he ⟨by rw [e0]; exact hit, (show s.heap.IsTuple a its.toArray from p)⟩ fun h' eb => ⟨rfl, I.turned (t' := s.toks) (fun b o hb q => eb b o hb q) f0 f1 f3 f4 f5⟩
  self := fun A i s Q E st h => let ⟨⟨_, he⟩, _⟩ := st; wpAny_pyIter_enum he h
/-- enumerate(list or tuple) -/
def iEnumA (K : PySem.W.Frag) (ta : TA) : TI := fun σ H R => ta σ H fun vs H1 => ∃ a xs, vs = [.ref a] ∧ ((SqL K H1 a xs ∧ R (Ite K a) H1) ∨ (SqT K H1 a xs ∧ R (IteT K a) H1))
theorem pi_enumA {X : Cx} {e : Expr} {ta : TA} {p pos tpos : Pos} {elts : List Expr} {kk : Nat} (hg : Gl X "enumerate") (hm : X.mg "enumerate" = none) (ha : PA X [e] ta) (hs : starEach [e] X.env = [(false, eval e X.env)] := by rfl) :
    PI X (.Tuple elts kk tpos) (.Call (.Name "enumerate" p) [e] [] pos) (iEnumA X.K ta) := by
  refine ⟨fun pins s σ H R I h => ?_⟩
  refine Call_ (ld_blt I hg hm boot_enumerate (PyProof.Rows.callWith_type1 (thn (ha.run pos pins s σ H _ I h) fun us s1 ⟨vs, H1, I1, r1, q1⟩ => ?_) hs rfl))
  obtain ⟨a, xs, ex, q⟩ := q1
  subst ex
  cases r1 with
  | cons r rr =>
    cases rr
    cases r
    have fr : ∀ b, b = s1.heap.objs.size + 1 ∨ b = s1.heap.objs.size → FpOk X pins H1 b := fun b e' => by
      have hle : s1.heap.objs.size ≤ b := by
        rcases e' with z | z
        · rw [z]; exact Nat.le_add_right _ _
        · rw [z]; exact Nat.le_refl _
      exact I1.fpOk hle (I1.hok.fresh hle)
    rcases q with ⟨hq, q⟩ | ⟨hq, q⟩
    · obtain ⟨its, rv, p', hz⟩ := I1.list hq
      refine call_enumerate_list p'.isList fun h' he hit hsz hk => wpAny_pyIter_enum he ?_
      have I2 : Inv X pins σ H1 { s1 with heap := h' } := I1.kept (t' := s1.toks) hk
      exact ⟨s1.heap.objs.size + 1, [s1.heap.objs.size + 1, s1.heap.objs.size], _, _, H1, rfl, I2, turn_enum a (s1.heap.objs.size + 1) s1.heap.objs.size, ⟨⟨.none, he⟩, hit, Nat.succ_ne_self _⟩, fun b hb => fr b (by simpa using hb), q⟩
    · obtain ⟨its, rv, p', hz⟩ := I1.tuple hq
      have hal := p'.lt
      refine gx_enum1 (begins_tuple a its.toArray) (show s1.heap.IsTuple a its.toArray from p') fun h' he hit hsz hk => wpAny_pyIter_enum he ?_
      have I2 : Inv X pins σ H1 { s1 with heap := h' } := I1.kept (t' := s1.toks) hk
      exact ⟨s1.heap.objs.size + 1, [s1.heap.objs.size + 1, s1.heap.objs.size], _, _, H1, rfl, I2, turn_enumT a (s1.heap.objs.size + 1) s1.heap.objs.size, ⟨⟨.none, he⟩, ⟨_, hit, rfl, rfl⟩, Nat.succ_ne_self _, Nat.ne_of_lt (Nat.lt_succ_of_lt hal), Nat.ne_of_lt hal⟩, fun b hb => fr b (by simpa using hb), q⟩
/-! ### range(n) as a value; a walk of it -/
theorem cr_range1 {X : Cx} : CallR X (.type "range") (fun vs H Q => ∃ j, vs = [V.int j] ∧ ∀ p, H p = none → Q (.ref p) (upd H p (.rng 0 j))) := by
  intro pins s σ H vs us Q I r h
  obtain ⟨j, rfl, q⟩ := h
  obtain ⟨u1, rfl, ri⟩ := vals1 r
  obtain ⟨t, rfl⟩ := ri
  refine call_range_1 ⟨.ref s.heap.objs.size, upd H s.heap.objs.size (.rng 0 j), I.laid (t' := s.toks + 2) (fun b o e => Heap.get?_push_of_some _ e) (Nat.le_refl _) ?_, rfl, q _ (I.hok.fresh (Nat.le_refl _))⟩
  exact ⟨s.toks, t, s.toks + 1, Heap.get?_push_size _ rfl⟩
/-- a range that stands in H, walked -/
def iRngO (tl : TE) : TI := fun σ H R => tl σ H fun x H1 => ∃ a lo hi, x = .ref a ∧ H1 a = some (.rng lo hi) ∧ (-(2 ^ 62) ≤ lo ∧ lo < 2 ^ 62 ∧ -(2 ^ 62) ≤ hi ∧ hi < 2 ^ 62) ∧ R (Itr lo (hi - lo).toNat) H1
theorem pi_rngO {X : Cx} {tg l : Expr} {tl : TE} (hl : PE X l tl) : PI X tg l (iRngO tl) := by
  refine ⟨fun pins s σ H R I h => ?_⟩
  refine thn (hl.run pins s σ H _ I h) fun v s1 ⟨x, H1, I1, r1, q1⟩ => ?_
  obtain ⟨a, lo, hi, e, ha, ⟨b1, b2, b3, b4⟩, q⟩ := q1
  subst e
  cases r1
  obtain ⟨t, u, v, ho⟩ := (show ∃ t u v, s1.heap.get? a = some { cls := .type "range", data := .fields #[.int lo t, .int hi u, .int 1 v] } from I1.hok a _ ha)
  refine wpAny_pyIter_range ho (small_one b1 b2 b3 b4) ?_
  refine ⟨s1.heap.objs.size, [s1.heap.objs.size], _, _, H1, rfl, I1.kept (t' := s1.toks) fun b o e => Heap.get?_push_of_some _ e, turn_range _ lo (hi - lo).toNat, ?_, fun b hb => ?_, q⟩
  · have e1 : lo + ((0 : Nat) : Int) * 1 = lo := by simp
    have e2 : (((hi - lo).toNat : Nat) : Int) - ((0 : Nat) : Int) = Builtin.Range.rangeSize lo hi 1 := by rw [rangeSize_one]; split <;> omega
    show IsRangeIter _ _ (lo + ((0 : Nat) : Int) * 1) ((((hi - lo).toNat : Nat) : Int) - ((0 : Nat) : Int)) 1
    rw [e1, e2]
    exact Heap.get?_push_size _ rfl
  · have e : b = s1.heap.objs.size := by simpa using hb
    subst e
    exact I1.fpOk (Nat.le_refl _) (I1.hok.fresh (Nat.le_refl _))
end GX
namespace PySem
open SrtO
section
open PyProof.Rows
variable {prog : Program} {w : World} {A : Around} {E : Value → Shared → Prop} {s : Shared}
theorem gx_collect_tuple {l : Addr} {vs : List Value} {Q : List Value → Shared → Prop} (hl : s.heap.IsTuple l vs.toArray)
    (h : Q vs { s with heap := (s.heap.push (seqObj "list" #[] 0)).update s.heap.objs.size (Obj.mapSeq (· ++ vs.toArray)) }) (hsz : vs.length ≤ sizeLine) :
    wpAny (model prog w) A (collect (.ref l)) Q E s := by
  obtain ⟨o, ho, hc, n, hd⟩ := id hl
  unfold collect
  refine wpAny_bind (wpAny_runValue (codeAny_builtin entry_proto_collect' ?_))
  show wpAny _ _ (do again (.builtin "list.__iadd__" ⟨[← newList [], .ref l], []⟩)) _ _ s
  refine wpAny_bind (wpAny_newList (wpAny_pure ⟨Code.quiet_builtin _ (by decide +kernel), codeAny_builtin entry_list_iadd' ?_⟩))
  show wpAny _ _ (Builtin.List.listExtendWith (.ref s.heap.objs.size) (.ref l) (.ref s.heap.objs.size)) _ _ { s with heap := s.heap.push (seqObj "list" #[] 0) }
  unfold Builtin.List.listExtendWith
  have ho' : (s.heap.push (seqObj "list" #[] 0)).get? l = some o := Heap.get?_push_of_some _ ho
  refine wpAny_bind (wpAny_typeOf (T := "tuple") ⟨o, ho', hc⟩ ?_)
  have ht : (Value.type "tuple" == Value.type "tuple") = true := by rfl
  rw [if_pos (by rw [ht]; simp)]
  refine wpAny_bind (listItems_at ho' hd ?_)
  refine wpAny_bind (listItems_at (xs := #[]) (n := 0) (Heap.get?_push_size _ rfl) rfl ?_)
  rw [if_neg (by simp)]
  refine wpAny_bind (listUpdate_at (xs := #[]) (n := 0) (Heap.get?_push_size _ rfl) rfl ?_ (Nat.zero_le _) (by show (#[] ++ vs.toArray).size ≤ sizeLine + 1; simp only [Array.size_append, List.size_toArray, List.length_nil]; omega))
  refine wpAny_pure ?_
  show wpAny (model prog w) A (do
      let o ← load s.heap.objs.size
      match o.data with
      | .seq xs _ => pure xs.toList
      | _ => unsupported "internal:collect") Q E { s with heap := (s.heap.push (seqObj "list" #[] 0)).update s.heap.objs.size (Obj.mapSeq (· ++ vs.toArray)) }
  refine wpAny_bind (wpAny_load (get?_update_seq (Heap.get?_push_size _ rfl) _) ?_)
  show wpAny _ _ (pure ((#[] : Array Value) ++ vs.toArray).toList) Q E _
  rw [show ((#[] : Array Value) ++ vs.toArray).toList = vs by simp]
  exact wpAny_pure h
theorem gx_sorted_ordT {l : Addr} {vs : List Value} {ltv : Value → Value → Bool} {Q : Value → Shared → Prop} (O : Swo ltv) (hl : s.heap.IsTuple l vs.toArray) (hz : vs.length ≤ sizeLine)
    (hS : 2 ≤ vs.length → ∀ (h₁ : Heap) (a : Addr), h₁.get? a = some (seqObj "list" vs.toArray 0) → (∀ b o, s.heap.get? b = some o → b ≠ a ∧ h₁.get? b = some o) → SortableO prog w A.in1.in1 { s with heap := h₁ } a vs ltv)
    (h : ∀ out : List Value, Srtd ltv out → Stb ltv out vs → Q (.ref (s.heap.objs.size + 1)) { s with heap := sortedAll s.heap vs out.toArray }) :
    wpAny (model prog w) A (call (.builtin "sorted") [.ref l]) Q E s := by
  refine Calls.call_function_entry kind_sorted plain_sorted entry_sorted (args_sorted1 _) ?_
  unfold Builtin.«sorted»
  refine wpAny_bind (m := checkCount "sorted" 1 1 _) (wpAny_pure ?_)
  refine wpAny_bind (gx_collect_tuple hl ?_ hz)
  refine wpAny_bind (wpAny_newList ?_ hz)
  have hsz : ((s.heap.push (seqObj "list" #[] 0)).update s.heap.objs.size (Obj.mapSeq (· ++ vs.toArray))).objs.size = s.heap.objs.size + 1 := by
    rw [Heap.size_update, size_push']
  have hoL : (((s.heap.push (seqObj "list" #[] 0)).update s.heap.objs.size (Obj.mapSeq (· ++ vs.toArray))).push (seqObj "list" vs.toArray 0)).get? (s.heap.objs.size + 1) = some (seqObj "list" vs.toArray 0) := by
    rw [← hsz]; exact Heap.get?_push_size _ rfl
  have keep : ∀ b o, s.heap.get? b = some o → b ≠ s.heap.objs.size + 1 ∧ (((s.heap.push (seqObj "list" #[] 0)).update s.heap.objs.size (Obj.mapSeq (· ++ vs.toArray))).push (seqObj "list" vs.toArray 0)).get? b = some o := fun b o q => by
    have hlt : b < s.heap.objs.size := Heap.lt_size q
    refine ⟨Nat.ne_of_lt (Nat.lt_succ_of_lt hlt), Heap.get?_push_of_some _ ?_⟩
    rw [Heap.get?_update_ne _ _ _ _ (Nat.ne_of_lt hlt)]
    exact Heap.get?_push_of_some _ q
  show wpAny _ _ _ _ _ { s with heap := ((s.heap.push (seqObj "list" #[] 0)).update s.heap.objs.size (Obj.mapSeq (· ++ vs.toArray))).push (seqObj "list" vs.toArray 0) }
  rw [hsz]
  refine wpAny_bind (wpAny_holding (wpAny_call_entry slot_list_sort ⟨_, hoL, rfl⟩ entry_list_sort (list_sort_ord O hoL hz (fun h2 => hS h2 _ _ hoL keep) fun out hs hb => ⟨_, rfl, ?_⟩) (args_list_sort _)))
  exact wpAny_pure ⟨_, rfl, h out hs hb⟩
end
end PySem
namespace GX
open PySem PySem.Spec PyProof.Rows L2
/-- sorted(list or tuple of ints), any number of them -/
def rSortedIA (K : PySem.W.Frag) : List V → Hp → VK → Prop := fun vs H Q => ∃ (a : Addr) (ns : List Int), vs = [V.ref a] ∧ (SqL K H a (ns.map V.int) ∨ SqT K H a (ns.map V.int)) ∧
  ∀ (ns' : List Int) (p : Addr), ns'.Perm ns → ns'.Pairwise (· ≤ ·) → H p = none → Q (.ref p) (upd H p (.lst (ns'.map V.int)))
theorem cr_sortedIA {X : Cx} : CallR X (.builtin "sorted") (rSortedIA X.K) := by
  intro pins s σ H vs us Q I r h
  obtain ⟨a, ns, rfl, hs, q⟩ := h
  rcases hs with hs | hs
  · exact cr_sortedI pins s σ H _ us Q I r ⟨a, ns, rfl, hs, q⟩
  · obtain ⟨its, rv, hl, hz⟩ := I.tuple hs
    rw [Vals.ref1 r]
    have hi := rv.ints
    refine gx_sorted_ordT SrtO.swo_int (show s.heap.IsTuple a its.toArray from hl) (by rw [← rv.length]; exact hz) (fun h2 h₁ a' _ _ => SrtO.ints_sortable hi h2) fun out h1 h2 => ?_
    obtain ⟨k1, k2, k3⟩ := SrtO.ints_out hi h1 h2
    obtain ⟨ep, he'⟩ := PyProof.Rows.sortedAll_at s.heap its out.toArray
    have hlen : ((out.map SrtO.iv).map V.int).length ≤ sizeLine := by
      rw [List.length_map, k2.length_eq]
      rw [List.length_map] at hz
      exact hz
    exact ⟨.ref _, upd H (s.heap.objs.size + 1) (.lst ((out.map SrtO.iv).map V.int)), I.laid (t' := s.toks) (fun _ _ => PyProof.Rows.sortedAll_old) (Nat.le_succ _) ⟨hlen, out, ep, vals_of_ints k1, he'⟩, rfl, q _ _ k2 k3 (I.hok.fresh (Nat.le_succ _))⟩
end GX

set_option Elab.async false
set_option linter.all false
set_option maxRecDepth 100000
set_option maxHeartbeats 4000000
namespace PySem
theorem gx_tuple_mul1 (l : Addr) (items : Array Value) (n : Nat) (dd : Option Addr) (sl : Array (Option Value)) (u : Tok) :
    Meets (Builtin.«tuple.__mul__» { pos := [.ref l, .int 1 u] }) fun _ R s => s.heap.get? l = some { cls := .type "tuple", dict := dd, data := .seq items n, slots := sl } ∧ R (.ok (.ret (.ref l))) s :=
  .of_wp fun prog w A R s h => by
    obtain ⟨hp, g, d, tk, os⟩ := s; obtain ⟨h1, h⟩ := h
    wp_walk
    exact ⟨_, rfl, h⟩
theorem gx_tuple_mul0 (l : Addr) (items : Array Value) (n : Nat) (dd : Option Addr) (sl : Array (Option Value)) (u : Tok) :
    Meets (Builtin.«tuple.__mul__» { pos := [.ref l, .int 0 u] }) fun _ R s => s.heap.get? l = some { cls := .type "tuple", dict := dd, data := .seq items n, slots := sl } ∧ items.isEmpty = false ∧ R (.ok (.ret (Value.ref s.heap.objs.size))) { s with heap := s.heap.push { cls := Value.type "tuple", data := Data.seq #[] }, toks := s.toks } :=
  .of_wp fun prog w A R s h => by
    obtain ⟨hp, g, d, tk, os⟩ := s; obtain ⟨h1, h2, h⟩ := h
    wp_walk
    exact ⟨_, rfl, h⟩
end PySem
namespace L2
open PySem PySem.Spec PyProof.Rows
/-- tuple * k, k from 0 on -/
def rRepA (K : PySem.W.Frag) : R2 := fun x y H Q => ∃ l k xs, x = .ref l ∧ y = .int k ∧ SqT K H l xs ∧ xs ≠ [] ∧ 0 ≤ k ∧ k ≤ 1000 ∧ xs.length ≤ 1000 ∧ (k = 1 → Q (.ref l) H) ∧ (k ≠ 1 → ∀ p, H p = none → Q (.ref p) (upd H p (.tup (List.replicate k.toNat xs).flatten)))
section
variable {X : Cx}
theorem op_repA : OpR X (binaryOp .Mult) (rRepA X.K) := by
  intro pins s σ H x y v u Q I rx ry h
  obtain ⟨l, k, xs, rfl, rfl, hT, hne, h1, h2, hz, q1, q2⟩ := h
  by_cases k2 : 2 ≤ k
  · exact op_repT pins s σ H _ _ v u Q I rx ry ⟨l, k, xs, rfl, rfl, hT, hne, k2, h2, hz, q2 (by omega)⟩
  cases rx
  obtain ⟨t, rfl⟩ := ry
  obtain ⟨its, r, ⟨⟨cls, dd, data, sl⟩, ho, hc, n, hd⟩, hs⟩ := I.tuple hT
  simp only at hc hd
  subst hc hd
  have hle : its.length = xs.length := r.length.symm
  have hn : its ≠ [] := fun e => hne (by
    rw [e] at hle
    exact List.eq_nil_of_length_eq_zero hle.symm)
  have hi : its.toArray.isEmpty = false := by
    cases its with
    | nil => exact absurd rfl hn
    | cons a b => rfl
  by_cases k1 : k = 1
  · subst k1
    refine wpAny_binaryOp_repeat_ref (T := "tuple") (U := "int") (by decide) ⟨_, ho, rfl⟩ (fun s' => typeIs_int s' 1 t) noFill_tuple_mul F.fills_int_mul F.slot_int_rmul repeat_tuple F.slot_int_index.lookup
      (call_meets F.slot_int_rmul (typeIs_int s 1 t) F.entry_int_rmul (F.args_int_rmul_2 _ _) (int_rmul_tuple 1 t l its.toArray n dd sl)
        ⟨ho, rfl, ⟨_, ho, rfl⟩, call_meets F.slot_tuple_mul ⟨_, ho, rfl⟩ F.entry_tuple_mul (F.args_tuple_mul_2 _ _) (gx_tuple_mul1 l its.toArray n dd sl t) ⟨ho, ?_⟩⟩)
    exact ⟨.ref l, H, I, rfl, q1 rfl⟩
  · have k0 : k = 0 := by omega
    subst k0
    refine wpAny_binaryOp_repeat_ref (T := "tuple") (U := "int") (by decide) ⟨_, ho, rfl⟩ (fun s' => typeIs_int s' 0 t) noFill_tuple_mul F.fills_int_mul F.slot_int_rmul repeat_tuple F.slot_int_index.lookup
      (call_meets F.slot_int_rmul (typeIs_int s 0 t) F.entry_int_rmul (F.args_int_rmul_2 _ _) (int_rmul_tuple 0 t l its.toArray n dd sl)
        ⟨ho, rfl, ⟨_, ho, rfl⟩, call_meets F.slot_tuple_mul ⟨_, ho, rfl⟩ F.entry_tuple_mul (F.args_tuple_mul_2 _ _) (gx_tuple_mul0 l its.toArray n dd sl t) ⟨ho, hi, ?_⟩⟩)
    refine ⟨.ref s.heap.objs.size, _, I.laid (t' := s.toks) (o := .tup []) (fun b ob q => Heap.get?_push_of_some _ q) (Nat.le_refl _) ?_, rfl, q2 k1 _ (I.hok.fresh (Nat.le_refl _))⟩
    exact ⟨Nat.zero_le _, [], .nil, IsTup.new _ _⟩
end
end L2

set_option Elab.async false
set_option linter.all false
set_option maxRecDepth 100000
set_option maxHeartbeats 4000000
namespace L2
open PySem PySem.Spec PyProof.Rows
section
variable {X : Cx} {CX : CXT} {k : Nat} {f C : Addr} {fd : FuncData} {ps ks : List Str} {sp : Sp} {E : St → XK} {x m : Str} {p pos apos : Pos} {e o : Expr} {es : List Expr} {kws : List Keyword} {te ta : TE} {t tk : TA} {g : List Value → List Value → List Value} {gV : List V → List V → List V}
/-- a call with keywords inside a try -/
def tCallKS (sp : Sp) (gV : List V → List V → List V) (E : St → XK) (t tk : TA) : TE := fun σ H Q => t σ H fun vs H1 => tk σ H1 fun zs H2 => sp (gV vs zs) H2 Q (E σ)
theorem run_fnks {pins : List (Addr × Obj)} {σ : St} {H : Hp} {s : Shared} {Q : VK} {us ws : List Value} {vs zs : List V} (F : FnOk X.prog X.w X.K X.mg X.base CX k f fd ps sp) (hr : Room k X.A) (hb : KBinds X.K fd ps ks g gV) (hx : PassesAt CX X σ (E σ))
    (I : Inv X pins σ H s) (r : Vals vs us) (rz : Vals zs ws) (h : sp (gV vs zs) H Q (E σ)) : wpAny (model X.prog X.w) X.A (call (.ref f) us (ks.zip ws)) (EP X pins σ Q) X.xe s := by
  have r2 := hb.rel r rz
  have hl : (g us ws).length = ps.length := by rw [← r2.length]; exact F.len _ _ _ _ h
  refine wpAny_call (codeAny_mono (F.run X.A X.stack s H ⟨us, ks.zip ws⟩ (g us ws) (gV vs zs) Q (E σ) hr I.env0 (hb.to s us ws I.kIn hl) r2 h) fun r s' hq => ?_)
  cases r with
  | error e => exact hx pins H s e s' I hq
  | ok fl =>
    cases fl with
    | ret u => exact I.after hq
    | next => exact False.elim hq
    | brk => exact False.elim hq
    | cont => exact False.elim hq
theorem pe_callKS (F : FnOk X.prog X.w X.K X.mg X.base CX k f fd ps sp) (hr : Room k X.A) (hg : Gl X x) (hm : X.mg x = some (.ref f)) (hk : PySem.W.keepIn X.K (.ref f) = true) (hb : KBinds X.K fd ps ks g gV) (hx : ∀ σ, PassesAt CX X σ (E σ))
    (ha : PA X (e :: es) t) (hkw : PK X kws tk) (hall : (backToKw pos (keywordEach kws X.env)).all (·.1.isSome) = true := by rfl) (hks : (backToKw pos (keywordEach kws X.env)).filterMap (·.1) = ks := by rfl)
    (hdb : (x == ("__debug__" : Str)) = false := by decide) (he : starEach (e :: es) X.env = (false, eval e X.env) :: starEach es X.env := by rfl)
    (hpl : ((backTo pos (starEach (e :: es) X.env)).any (·.1) || (backToKw pos (keywordEach kws X.env)).any (·.1.isNone)) = false := by rfl) :
    PE X (.Call (.Name x p) (e :: es) kws pos) (tCallKS sp gV E t tk) := by
  refine ⟨fun pins s σ H Q I h => ?_⟩
  refine wpAny_Call_Name_kw (ld_glob I hg hm ?_ hdb)
  refine PySem.W.callWith_KW (h₀ := X.base) I.ok.mod.kin hk hall (thn (ha.run pos pins s σ H _ I h) fun us s1 ⟨vs, H1, I1, r, q⟩ => ?_) hpl he
  refine thn (hkw.run pos pins s1 σ H1 _ I1 q) fun ws s2 ⟨zs, H2, I2, rz, q2⟩ => ⟨I2.kIn, ?_⟩
  rw [hks]
  exact run_fnks F hr hb (hx σ) I2 r rz q2
end
end L2

set_option Elab.async false
set_option linter.all false
set_option maxRecDepth 100000
set_option maxHeartbeats 4000000
/-! list(enumerate(v)) over what is drawn -/
namespace PySem
theorem gx_no_len : typeLookup (.type "enumerate") "__len__" = pure none := am_miss_of_fast (by decide +kernel)
theorem gx_no_hint : typeLookup (.type "enumerate") "__length_hint__" = pure none := am_miss_of_fast (by decide +kernel)
section
variable {prog : Program} {w : World} {A : Around} {E : Value → Shared → Prop} {s : Shared}
variable {e it S : Addr} {fp : List Addr} {n : Nat} {R : Nat → Value → Prop} {St : Nat → Heap → Prop}
theorem gx_next_held {T : Addr} {i : Nat} {old : Value} {f : Bool} {oT : Obj} {Q : Value → Shared → Prop} (D : Draws prog w A it fp n R St)
    (he : IsEnumHeld s.heap e it i old T f) (oT1 : s.heap.get? T = some oT) (t1 : T ≠ e) (t2 : T ≠ it) (st : St i s.heap) (lt : i < n) (ne : e ≠ it) (nf : e ∉ fp)
    (hQ : ∀ x h' tk, R i x → IsEnumHeld h' e it ((i : Int) + 1) old T true → St (i + 1) h' → h'.get? s.heap.objs.size = some { cls := .type "tuple", data := .seq #[.int i tk, x] } → h'.objs.size = s.heap.objs.size + 1 →
      (∀ b o, b ≠ e → b ≠ it → s.heap.get? b = some o → h'.get? b = some o) → Q (.ref s.heap.objs.size) { s with heap := h', toks := tk + 1 }) :
    wpAny (model prog w) A (Builtin.«enumerate.__next__» ⟨[.ref e], []⟩) (fun fin s' => ∃ v, fin = .done (.ret v) ∧ Q v s') E s := by
  obtain ⟨hp, gg, dd, tk0, os⟩ := s
  show wpAny _ _ (field (.ref e) 2 >>= _) _ _ _
  refine wpAny_bind (wpAny_field he rfl (x := .ref it) rfl ?_)
  refine wpAny_bind (D.item i _ _ _ lt st fun x ha tk rx sa ka => ?_)
  have ka : Heap.SameBut it hp ha := ka
  have ea : IsEnumHeld ha e it i old T f := (ka.2 e ne).trans he
  show wpAny _ _ (field (.ref e) 3 >>= _) _ _ (⟨ha, gg, dd, tk, os⟩ : Shared)
  refine wpAny_bind (wpAny_field ea rfl (x := rawInt i) rfl ?_)
  show wpAny _ _ (field (.ref e) 4 >>= _) _ _ (⟨ha, gg, dd, tk, os⟩ : Shared)
  refine wpAny_bind (wpAny_field ea rfl (x := .none) rfl ?_)
  show wpAny _ _ (mkInt i >>= _) _ _ (⟨ha, gg, dd, tk, os⟩ : Shared)
  refine wpAny_bind (wpAny_mkInt ?_)
  show wpAny _ _ (setField (.ref e) 3 (rawInt ((i : Int) + 1)) >>= _) _ _ (⟨ha, gg, dd, tk + 1, os⟩ : Shared)
  refine wpAny_bind (wpAny_setField_rec ea (by simp) fun hb eb kb => ?_)
  have kb : Heap.SameBut e ha hb := kb
  have eb : IsEnumHeld hb e it ((i : Int) + 1) old T f := eb
  show wpAny _ _ (setField (.ref e) 4 .none >>= _) _ _ (⟨hb, gg, dd, tk + 1, os⟩ : Shared)
  refine wpAny_bind (wpAny_setField_rec eb (by simp) fun hc ec kc => ?_)
  have kc : Heap.SameBut e hb hc := kc
  have ec : IsEnumHeld hc e it ((i : Int) + 1) old T f := ec
  show wpAny _ _ (newTuple [.int i tk, x] >>= _) _ _ (⟨hc, gg, dd, tk + 1, os⟩ : Shared)
  refine wpAny_bind (wpAny_newTuple ?_)
  have z1 : hc.objs.size = hp.objs.size := (kc.1.trans kb.1).trans ka.1
  have le : e < hp.objs.size := Heap.lt_size he
  have ed : IsEnumHeld (hc.push { cls := .type "tuple", data := .seq #[.int i tk, x] }) e it ((i : Int) + 1) old T f := Heap.get?_push_of_some _ ec
  have td : (hc.push { cls := .type "tuple", data := .seq #[.int i tk, x] }).get? hp.objs.size = some { cls := .type "tuple", data := .seq #[.int i tk, x] } := by
    rw [← z1]
    exact Heap.get?_push_size _ rfl
  have zd : (hc.push { cls := .type "tuple", data := .seq #[.int i tk, x] }).objs.size = hp.objs.size + 1 := by rw [Heap.size_push, z1]
  have kd : ∀ b o, b ≠ e → b ≠ it → hp.get? b = some o → (hc.push { cls := .type "tuple", data := .seq #[.int i tk, x] }).get? b = some o := fun b o n1 n2 q =>
    Heap.get?_push_of_some _ (kc.extBut b o n1 (kb.extBut b o n1 (ka.extBut b o n2 q)))
  have sd : St (i + 1) (hc.push { cls := .type "tuple", data := .seq #[.int i tk, x] }) := D.frame _ _ _ sa fun b hb' o q => by
    have n1 : b ≠ e := fun z => nf (z ▸ hb')
    exact Heap.get?_push_of_some _ (kc.extBut b o n1 (kb.extBut b o n1 q))
  generalize hc.push { cls := .type "tuple", data := .seq #[.int i tk, x] } = hd at ed td zd kd sd
  show wpAny _ _ (Builtin.SmallTypes.ownedTupleIsFree (.ref e) >>= _) _ _ (⟨hd, gg, dd, tk + 1, os⟩ : Shared)
  rw [z1]
  refine wpAny_bind (wpAny_tupleHeld_enum (s := ⟨hd, gg, dd, tk + 1, os⟩) ed (kd T oT t1 t2 oT1) fun hf ef kf => ?_)
  have kf : Heap.SameBut e hd hf := kf
  simp only [Bool.false_eq_true, if_false]
  refine wpAny_pure ⟨_, rfl, hQ x hf tk rx ef (D.frame _ _ _ sd fun b hb' o q => kf.extBut b o (fun z => nf (z ▸ hb')) q) (kf.extBut _ _ (Nat.ne_of_gt le) td) ?_ fun b o n1 n2 q => kf.extBut b o n1 (kd b o n1 n2 q)⟩
  show hf.objs.size = hp.objs.size + 1
  rw [kf.1, zd]
/-- the enumerate object ahead of turn i: fresh, or with a tuple still out -/
def EnSt (St : Nat → Heap → Prop) (h : Heap) (e it S : Addr) (i : Nat) : Prop := St i h ∧ ((∃ old, IsEnum h e it i old) ∨ ∃ old T f oT, IsEnumHeld h e it i old T f ∧ h.get? T = some oT ∧ T ≠ e ∧ T ≠ it ∧ T ≠ S)
theorem EnSt.keep {h h' : Heap} {i : Nat} (st : EnSt St h e it S i) (D : ∀ i h h', St i h → (∀ b ∈ fp, ∀ o, h.get? b = some o → h'.get? b = some o) → St i h') (nS : S ∉ fp) (nE : e ≠ S) (k : ∀ b o, b ≠ S → h.get? b = some o → h'.get? b = some o) : EnSt St h' e it S i := by
  obtain ⟨st, q⟩ := st
  refine ⟨D _ _ _ st fun b hb o y => k b o (fun z => nS (z ▸ hb)) y, ?_⟩
  rcases q with ⟨old, q⟩ | ⟨old, T, f, oT, q, y, r1, r2, r3⟩
  · exact .inl ⟨old, k e _ nE q⟩
  · exact .inr ⟨old, T, f, oT, k e _ nE q, k T oT r3 y, r1, r2, r3⟩
theorem gx_item {i : Nat} {Q : Option Value → Shared → Prop} (D : Draws prog w A.in1 it fp n R St) (ne : e ≠ it) (nf : e ∉ fp) (hS : S < s.heap.objs.size) (st : EnSt St s.heap e it S i) (lt : i < n)
    (hQ : ∀ x h' tk, R i x → EnSt St h' e it S (i + 1) → h'.get? s.heap.objs.size = some { cls := .type "tuple", data := .seq #[.int i tk, x] } → (∀ b o, b ≠ e → b ≠ it → s.heap.get? b = some o → h'.get? b = some o) → Q (some (.ref s.heap.objs.size)) { s with heap := h', toks := tk + 1 }) :
    wpAny (model prog w) A (pyNext (.ref e)) Q E s := by
  obtain ⟨st, q⟩ := st
  have ec : ((i + 1 : Nat) : Int) = (i : Int) + 1 := by omega
  have lit : it < s.heap.objs.size := let ⟨_, y⟩ := D.live _ _ st; Heap.lt_size y
  rcases q with ⟨old, q⟩ | ⟨old, T, f, oT, q, y, r1, r2, r3⟩
  · have le : e < s.heap.objs.size := Heap.lt_size q
    exact wpAny_pyNext_enum_itemC D q st lt ne nf fun x h' tk rx ho st' hT hz hk => hQ x h' tk rx ⟨st', .inr ⟨x, s.heap.objs.size, false, _, by rw [ec]; exact ho, hT, Nat.ne_of_gt le, Nat.ne_of_gt lit, Nat.ne_of_gt hS⟩⟩ hT hk
  · have hy : s.TypeIs (.ref e) "enumerate" := ⟨_, q, rfl⟩
    unfold pyNext
    refine wpAny_bind (wpAny_attempt (wpAny_callSpecial?_slot (name := Str.ofString "__next__") hy F.slot_enumerate_next (wpAny_call_entry F.slot_enumerate_next hy F.entry_enumerate_next
      (gx_next_held D q y r1 r2 st lt ne nf fun x h' tk rx ho st' hT hz hk => wpAny_pure (hQ x h' tk rx ⟨st', .inr ⟨old, T, true, oT, by rw [ec]; exact ho, hk T oT r1 r2 y, r1, r2, r3⟩⟩ hT hk)) (F.args_enumerate_next_1 _))))
theorem gx_done {Q : Option Value → Shared → Prop} (D : Draws prog w A.in1 it fp n R St) (st : EnSt St s.heap e it S n) (hQ : ∀ h', Heap.ExtBut it s.heap h' → Q none { s with heap := h' }) : wpAny (model prog w) A (pyNext (.ref e)) Q E s := by
  obtain ⟨st, q⟩ := st
  rcases q with ⟨old, q⟩ | ⟨old, T, f, oT, q, y, r1, r2, r3⟩
  · exact wpAny_pyNext_enum_endD D q st hQ
  · have hy : s.TypeIs (.ref e) "enumerate" := ⟨_, q, rfl⟩
    unfold pyNext
    refine wpAny_bind (wpAny_attempt (wpAny_callSpecial?_slot (name := Str.ofString "__next__") hy F.slot_enumerate_next (wpAny_call_entry F.slot_enumerate_next hy F.entry_enumerate_next ?_ (F.args_enumerate_next_1 _))))
    show wpAny _ _ (field (.ref e) 2 >>= _) _ _ _
    refine wpAny_bind (wpAny_field q rfl (x := .ref it) rfl ?_)
    refine wpAny_bind (D.done _ _ _ st fun h' x he' hx' => ?_)
    obtain ⟨o, ho, hc⟩ := hx'
    exact wpAny_bind (wpAny_isInstance (T := "StopIteration") (b := true) ⟨o, ho, hc⟩ isSubtype_stop (wpAny_pure (hQ _ he')))
/-- the tuples given out so far -/
structure EnG (R : Nat → Value → Prop) (lo : Addr) (h : Heap) (as : List Addr) : Prop where
  nd : as.Nodup
  above : ∀ a ∈ as, lo < a
  pairs : ∀ (j : Nat) (a : Addr), as[j]? = some a → ∃ tk x, R j x ∧ h.get? a = some { cls := .type "tuple", data := .seq #[.int j tk, x] }
end
end PySem

set_option Elab.async false
set_option linter.all false
set_option maxRecDepth 100000
set_option maxHeartbeats 4000000
namespace PySem
section
variable {prog : Program} {w : World} {A : Around} {s : Shared} {Z : Result → Shared → Prop}
variable {e it S : Addr} {fp : List Addr} {n : Nat} {R : Nat → Value → Prop} {St : Nat → Heap → Prop}
/-- the list S is being filled from e: i tuples are out -/
structure EnAt (St : Nat → Heap → Prop) (R : Nat → Value → Prop) (e it S : Addr) (h0 h : Heap) (i : Nat) (acc : Array Value) (c : Nat) (as : List Addr) : Prop where
  sh : h.get? S = some { cls := .type "list", dict := none, data := .seq acc c, slots := #[] }
  ac : acc.toList = as.map Value.ref
  ln : as.length = i
  gr : EnG R S h as
  kp : ∀ b o, b ≠ S → b ≠ e → b ≠ it → h0.get? b = some o → h.get? b = some o
theorem en_fill (hi : it < S) (he : e < S) (ne : e ≠ it) (nf : e ∉ fp) (nS : S ∉ fp) (hn : n ≤ sizeLine) (D : Draws prog w A.in1.in1 it fp n R St) (res : Value) {h0 : Heap}
    (hZ : ∀ h' tk acc c as, EnAt St R e it S h0 h' n acc c as → Z (.ok (.ret res)) { s with heap := h', toks := tk }) :
    ∀ (k i : Nat) (h : Heap) (tk c : Nat) (acc : Array Value) (as : List Addr), n - i = k → i ≤ n → EnSt St h e it S i → EnAt St R e it S h0 h i acc c as →
      codeAny (model prog w) A (.builtin "list.extend.loop" ⟨[.ref S, .ref e, res], []⟩) Z { s with heap := h, toks := tk } := by
  intro k
  induction k with
  | zero =>
    intro i h tk c acc as e0 le st at0
    obtain rfl : i = n := by omega
    refine codeAny_builtin F.entry_extend_loop ?_
    rw [Around.under_plainId F.plain_extend_loop _]
    show wpAny _ A.in1 (pyNext (.ref e) >>= _) _ _ _
    refine wpAny_bind (gx_done (s := { s with heap := h, toks := tk }) D st fun h' ex => ?_)
    exact wpAny_pure (hZ h' tk acc c as ⟨ex S _ (Nat.ne_of_gt hi) at0.sh, at0.ac, at0.ln, ⟨at0.gr.nd, at0.gr.above, fun j a q => let ⟨t, x, z1, z2⟩ := at0.gr.pairs j a q; ⟨t, x, z1, ex a _ (Nat.ne_of_gt (Nat.lt_trans hi (at0.gr.above a (List.mem_of_getElem? q)))) z2⟩⟩, fun b o z1 z2 z3 z4 => ex b o z3 (at0.kp b o z1 z2 z3 z4)⟩)
  | succ k more =>
    intro i h tk c acc as e0 le st at0
    have lt : i < n := by omega
    have z0 : acc.size = i := by rw [← Array.length_toList, at0.ac, List.length_map, at0.ln]
    have lS : S < h.objs.size := Heap.lt_size at0.sh
    refine codeAny_builtin F.entry_extend_loop ?_
    rw [Around.under_plainId F.plain_extend_loop _]
    show wpAny _ A.in1 (pyNext (.ref e) >>= _) _ _ _
    refine wpAny_bind (gx_item (s := { s with heap := h, toks := tk }) D ne nf lS st lt fun x h1 tk1 rx st1 hT k1 => ?_)
    dsimp only at hT k1 ⊢
    have sh1 := k1 S _ (Nat.ne_of_gt he) (Nat.ne_of_gt hi) at0.sh
    have k2 : ∀ b o, b ≠ S → h1.get? b = some o → (h1.update S (Obj.mapSeq (·.push (Value.ref h.objs.size)))).get? b = some o := fun b o q z => (Heap.get?_update_other _ _ (Ne.symm q)).trans z
    have k3 : ∀ b o, b ≠ S → b ≠ e → b ≠ it → h.get? b = some o → (h1.update S (Obj.mapSeq (·.push (Value.ref h.objs.size)))).get? b = some o := fun b o q1 q2 q3 z => k2 b o q1 (k1 b o q2 q3 z)
    show wpAny _ A.in1 (updateSeq S (·.push (Value.ref h.objs.size)) >>= _) _ _ _
    refine wpAny_bind (wpAny_updateSeq sh1 rfl (wpAny_pure ⟨plainId_quiet F.plain_extend_loop _, more (i + 1) _ _ _ (acc.push (Value.ref h.objs.size)) (as ++ [h.objs.size]) (by omega) lt (st1.keep D.frame nS (Nat.ne_of_lt he) k2) ⟨Heap.get?_update_self _ sh1 rfl, ?_, ?_, ⟨?_, ?_, ?_⟩, ?_⟩⟩) (by rw [z0]; omega) (by show (acc.push (Value.ref h.objs.size)).size ≤ sizeLine + 1; rw [Array.size_push, z0]; omega))
    · rw [Array.toList_push, at0.ac, List.map_append]; rfl
    · rw [List.length_append, at0.ln]; rfl
    · refine List.nodup_append.mpr ⟨at0.gr.nd, List.nodup_cons.mpr ⟨by simp, List.nodup_nil⟩, fun a ha b hb => ?_⟩
      obtain ⟨j, hj⟩ := List.mem_iff_getElem?.mp ha
      obtain ⟨_, _, _, z⟩ := at0.gr.pairs j a hj
      rw [List.mem_singleton.mp hb]
      exact Nat.ne_of_lt (Heap.lt_size z)
    · intro a ha
      rcases List.mem_append.mp ha with ha | ha
      · exact at0.gr.above a ha
      · rw [List.mem_singleton.mp ha]; exact lS
    · intro j b hj
      by_cases hl : j < as.length
      · rw [List.getElem?_append_left hl] at hj
        obtain ⟨t, y, z1, z2⟩ := at0.gr.pairs j b hj
        have ab := at0.gr.above b (List.mem_of_getElem? hj)
        exact ⟨t, y, z1, k3 b _ (Nat.ne_of_gt ab) (Nat.ne_of_gt (Nat.lt_trans he ab)) (Nat.ne_of_gt (Nat.lt_trans hi ab)) z2⟩
      · rw [List.getElem?_append_right (Nat.le_of_not_lt hl)] at hj
        have hj0 : j - as.length = 0 := by
          cases hd : j - as.length with
          | zero => rfl
          | succ m => rw [hd] at hj; simp at hj
        rw [hj0] at hj
        obtain rfl : h.objs.size = b := by simpa using hj
        obtain rfl : j = i := by have := at0.ln; omega
        exact ⟨tk1, x, rx, k2 _ _ (Nat.ne_of_gt lS) hT⟩
    · exact fun b o q1 q2 q3 z => k3 b o q1 q2 q3 (at0.kp b o q1 q2 q3 z)
theorem en_hint {Q : Bool → Shared → Prop} {E : Value → Shared → Prop} (ty : s.TypeIs (.ref e) "enumerate") (h : Q true s) : wpAny (model prog w) A (Builtin.List.listLengthHint (.ref e)) Q E s := by
  unfold Builtin.List.listLengthHint
  refine wpAny_bind (wpAny_specialOf ty gx_no_len ?_)
  show wpAny _ _ (specialOf (Value.ref e) (Str.ofString "__length_hint__") >>= _) _ _ _
  exact wpAny_bind (wpAny_specialOf ty gx_no_hint (wpAny_pure h))
theorem en_extend (hi : it < S) (he : e < S) (ne : e ≠ it) (nf : e ∉ fp) (nS : S ∉ fp) (hn : n ≤ sizeLine) (D : Draws prog w A.in1.in1 it fp n R St) (res : Value) {c0 : Nat} (sh : s.heap.get? S = some { cls := .type "list", data := .seq #[] c0 }) (q : IsEnum s.heap e it 0 .none) (st : St 0 s.heap)
    (hZ : ∀ h' tk acc c as, EnAt St R e it S s.heap h' n acc c as → Z (.ok (.ret res)) { s with heap := h', toks := tk }) :
    wpAny (model prog w) A.in1 (Builtin.List.listExtendWith (.ref S) (.ref e) res)
      (fun fin s' => match fin with | .done f => Z (.ok f) s' | .again c' => c'.quiet = true ∧ codeAny (model prog w) A c' Z s') (fun x s' => Z (.error x) s') s := by
  have ty : s.TypeIs (.ref e) "enumerate" := ⟨_, q, rfl⟩
  have n1 : Builtin.List.listSameRef (.ref S) (.ref e) = false := by simp [Builtin.List.listSameRef, Nat.ne_of_gt he]
  have n2 : (Value.type "enumerate" == Value.type "list") = false := by decide
  have n3 : (Value.type "enumerate" == Value.type "tuple") = false := by decide
  unfold Builtin.List.listExtendWith
  refine wpAny_bind (wpAny_typeOf ty ?_)
  simp only [n1, n2, n3, Bool.or_false, Bool.false_eq_true, if_false]
  refine wpAny_bind (wpAny_pyIter_enum q ?_)
  refine wpAny_bind (wpAny_holding (en_hint ty ?_))
  show wpAny _ A.in1 (rule "list.extend.makes-room" >>= fun _ => Builtin.List.listTouch (.ref S) >>= fun _ => again (.builtin "list.extend.loop" ⟨[.ref S, .ref e, res], []⟩)) _ _ _
  refine wpAny_bind (wpAny_rule ?_)
  refine wpAny_bind ?_
  show wpAny _ _ (updateSeq S (·.push .none) >>= fun _ => updateSeq S (·.pop)) _ _ _
  refine wpAny_bind (wpAny_updateSeq sh rfl ?_)
  have sh1 := Heap.get?_update_self (Obj.mapSeq (·.push Value.none)) sh rfl
  refine wpAny_updateSeq (hz := by seq_fits) sh1 rfl ?_
  have sh2 := Heap.get?_update_self (Obj.mapSeq (·.pop)) sh1 rfl
  have k : ∀ b o, b ≠ S → s.heap.get? b = some o → ((s.heap.update S (Obj.mapSeq (·.push Value.none))).update S (Obj.mapSeq (·.pop))).get? b = some o := fun b o y z => (Heap.get?_update_other _ _ (Ne.symm y)).trans ((Heap.get?_update_other _ _ (Ne.symm y)).trans z)
  have st1 : EnSt St s.heap e it S 0 := ⟨st, .inl ⟨.none, q⟩⟩
  exact wpAny_pure ⟨plainId_quiet F.plain_extend_loop _, en_fill (s := s) (h0 := s.heap) hi he ne nf nS hn D res hZ n 0 _ s.toks _ #[] [] (Nat.sub_zero _) (Nat.zero_le _) (st1.keep D.frame nS (Nat.ne_of_lt he) k) ⟨sh2, rfl, rfl, ⟨List.nodup_nil, (fun _ z => nomatch z), fun j a z => by simp at z⟩, fun b o y _ _ z => k b o y z⟩⟩
theorem en_init (hi : it < S) (he : e < S) (ne : e ≠ it) (nf : e ∉ fp) (nS : S ∉ fp) (hn : n ≤ sizeLine) (D : Draws prog w A.in1.in1 it fp n R St) (sh : s.heap.get? S = some { cls := .type "list", data := .seq #[] }) (q : IsEnum s.heap e it 0 .none) (st : St 0 s.heap)
    (hZ : ∀ h' tk acc c as, EnAt St R e it S s.heap h' n acc c as → Z (.ok (.ret .none)) { s with heap := h', toks := tk }) :
    wpAny (model prog w) A.in1 (Builtin.«list.__init__» ⟨[.ref S, .ref e], []⟩)
      (fun fin s' => match fin with | .done f => Z (.ok f) s' | .again c' => c'.quiet = true ∧ codeAny (model prog w) A c' Z s') (fun x s' => Z (.error x) s') s := by
  show wpAny _ _ (Builtin.List.listItems (.ref S) >>= fun old => Builtin.List.listUpdate (.ref S) (fun _ => #[]) >>= fun _ => letGo old.toList.reverse >>= fun _ => Builtin.List.listExtendWith (.ref S) (.ref e) .none) _ _ s
  refine wpAny_bind ?_
  unfold Builtin.List.listItems
  refine wpAny_bind (wpAny_seqItems sh rfl (wpAny_pure ?_))
  show wpAny _ _ (updateSeq S (fun _ => #[]) >>= fun _ => letGo (#[] : Array Value).toList.reverse >>= fun _ => Builtin.List.listExtendWith (.ref S) (.ref e) .none) _ _ s
  refine wpAny_bind (wpAny_updateSeq sh rfl ?_)
  have sh1 := Heap.get?_update_self (Obj.mapSeq (fun _ => (#[] : Array Value))) sh rfl
  have k : ∀ b o, b ≠ S → s.heap.get? b = some o → (s.heap.update S (Obj.mapSeq (fun _ => (#[] : Array Value)))).get? b = some o := fun b o y z => (Heap.get?_update_other _ _ (Ne.symm y)).trans z
  refine wpAny_bind (wpAny_letGo ?_)
  exact en_extend hi he ne nf nS hn D .none sh1 (k _ _ (Nat.ne_of_lt he) q) (D.frame _ _ _ st fun b hb o z => k b o (fun y => nS (y ▸ hb)) z) fun h' tk acc c as z => hZ h' tk acc c as ⟨z.sh, z.ac, z.ln, z.gr, fun b o y1 y2 y3 y => z.kp b o y1 y2 y3 (k b o y1 y)⟩
theorem en_call {Q : Value → Shared → Prop} {E : Value → Shared → Prop} (ne : e ≠ it) (nf : e ∉ fp) (hf : ∀ b ∈ fp, b < s.heap.objs.size) (hn : n ≤ sizeLine) (D : Draws prog w A.in1.in1.in1 it fp n R St) (q : IsEnum s.heap e it 0 .none) (st : St 0 s.heap)
    (hQ : ∀ h' tk acc c as, EnAt St R e it s.heap.objs.size s.heap h' n acc c as → Q (.ref s.heap.objs.size) { s with heap := h', toks := tk }) :
    wpAny (model prog w) A (call (.type "list") [.ref e]) Q E s := by
  refine callType_codes (Q₁ := fun v s1 => v = .ref s.heap.objs.size ∧ s1 = { s with heap := s.heap.push { cls := .type "list", data := .seq #[] } }) F.called_list (F.typeCall_list_1 _) F.entry_list_init (code_list_new _ ⟨rfl, rfl⟩) fun v s1 y => ?_
  obtain ⟨rfl, rfl⟩ := y
  have sh : (s.heap.push { cls := .type "list", data := .seq #[] }).get? s.heap.objs.size = some { cls := .type "list", data := .seq #[] } := Heap.get?_push_size _ rfl
  have lit : it < s.heap.objs.size := let ⟨_, y⟩ := D.live _ _ st; Heap.lt_size y
  refine ⟨⟨_, sh, rfl⟩, F.args_list_init_2 _ _, en_init (A := A.in1) lit (Heap.lt_size q) ne nf (fun y => Nat.lt_irrefl _ (hf _ y)) hn D sh (Heap.get?_push_of_some _ q) (D.frame _ _ _ st fun b _ o z => Heap.get?_push_of_some _ z) fun h' tk acc c as z => ?_⟩
  exact ⟨rfl, hQ h' tk acc c as ⟨z.sh, z.ac, z.ln, z.gr, fun b o y1 y2 y3 y => z.kp b o y1 y2 y3 (Heap.get?_push_of_some _ y)⟩⟩
end
end PySem

set_option Elab.async false
set_option linter.all false
set_option maxRecDepth 100000
set_option maxHeartbeats 4000000
namespace GX
open PySem PySem.Spec PyProof.Rows L2
/-- the pairs (j, x) at their addresses -/
def putE : Hp → Nat → List Addr → List V → Hp
  | H, j, a :: as, x :: xs => putE (upd H a (.tup [.int (j : Nat), x])) (j + 1) as xs
  | H, _, _, _ => H
theorem putE_off {b : Addr} : ∀ (as : List Addr) (xs : List V) (H : Hp) (j : Nat), b ∉ as → putE H j as xs b = H b
  | [], _, _, _, _ => rfl
  | _ :: _, [], _, _, _ => rfl
  | a :: as, x :: xs, H, j, q => by
    show putE (upd H a _) (j + 1) as xs b = H b
    rw [putE_off as xs _ _ (fun z => q (List.mem_cons_of_mem _ z)), upd_ne (fun z => q (by rw [z]; exact List.mem_cons_self))]
theorem putE_on : ∀ (as : List Addr) (xs : List V) (H : Hp) (j : Nat), as.length = xs.length → as.Nodup → ∀ i t, as[i]? = some t → ∃ x, xs[i]? = some x ∧ putE H j as xs t = some (.tup [.int ((j + i : Nat) : Int), x])
  | [], _, _, _, _, _, i, t, q => by simp at q
  | _ :: _, [], _, _, l, _, _, _, _ => by cases l
  | a :: as, x :: xs, H, j, l, nd, i, t, q => by
    have nd' := List.nodup_cons.mp nd
    cases i with
    | zero =>
      obtain rfl : a = t := by simpa using q
      refine ⟨x, rfl, ?_⟩
      show putE (upd H a _) (j + 1) as xs a = _
      rw [putE_off as xs _ _ nd'.1, upd_same]
      rfl
    | succ i =>
      obtain ⟨y, y1, y2⟩ := putE_on as xs (upd H a (.tup [.int (j : Nat), x])) (j + 1) (Nat.succ.inj l) nd'.2 i t (by simpa using q)
      refine ⟨y, by simpa using y1, ?_⟩
      show putE (upd H a _) (j + 1) as xs t = _
      rw [y2, show j + 1 + i = j + (i + 1) by omega]
/-- ts hold the pairs (0, x0), (1, x1) .. -/
def EnumT (H : Hp) (ts : List Addr) (xs : List V) : Prop := ts.length = xs.length ∧ ∀ j t, ts[j]? = some t → ∃ x, xs[j]? = some x ∧ H t = some (.tup [.int (j : Nat), x])
theorem refs_vals : ∀ as : List Addr, Vals (as.map V.ref) (as.map Value.ref)
  | [] => .nil
  | _ :: as => .cons rfl (refs_vals as)
section
variable {X : Cx}
theorem enums_laid {pins : List (Addr × Obj)} {σ : L2.St} {H : Hp} {s : Shared} {h' : Heap} {tk : Nat} {xs : List V} {its : List Value} {acc : Array Value} {c : Nat} {as : List Addr} {S : Addr} (I : Inv X pins σ H s) (l0 : s.heap.objs.size ≤ S) (hz : xs.length ≤ sizeLine) (rv : Vals xs its)
    (hk : ∀ b o, s.heap.get? b = some o → h'.get? b = some o) (sh : h'.get? S = some { cls := .type "list", dict := none, data := .seq acc c, slots := #[] }) (hl : as.length = its.toArray.size) (g : EnG (fun i v => its.toArray[i]? = some v) S h' as) (ac : acc.toList = as.map Value.ref) :
    ∃ H' : Hp, (∀ b o, H b = some o → H' b = some o) ∧ H S = none ∧ (∀ t ∈ as, H t = none) ∧ S ∉ as ∧ as.Nodup ∧ H' S = some (.lst (as.map V.ref)) ∧ EnumT H' as xs ∧ Inv X pins σ H' { s with heap := h', toks := tk } := by
  have lx : as.length = xs.length := by rw [hl, rv.length]; simp
  have nS : S ∉ as := fun z => Nat.lt_irrefl _ (g.above _ z)
  have new : ∀ t ∈ as, H t = none := fun t ht => I.hok.fresh (Nat.le_trans l0 (Nat.le_of_lt (g.above t ht)))
  have newS : H S = none := I.hok.fresh l0
  have on := putE_on as xs (upd H S (.lst (as.map V.ref))) 0 lx g.nd
  have off : ∀ b, b ∉ as → b ≠ S → putE (upd H S (.lst (as.map V.ref))) 0 as xs b = H b := fun b z1 z2 => by rw [putE_off as xs _ _ z1, upd_ne z2]
  have atS : putE (upd H S (.lst (as.map V.ref))) 0 as xs S = some (.lst (as.map V.ref)) := by rw [putE_off as xs _ _ nS, upd_same]
  generalize putE (upd H S (.lst (as.map V.ref))) 0 as xs = H' at on off atS
  have kp : ∀ b u, H b = some u → H' b = some u := fun b u q => by
    rw [off b (fun z => by rw [new b z] at q; cases q) (fun z => by rw [z, newS] at q; cases q)]
    exact q
  have low : ∀ b o, s.heap.get? b = some o → b ∉ as ∧ b ≠ S := fun b o q => ⟨fun z => absurd (Heap.lt_size q) (Nat.not_lt.mpr (Nat.le_trans l0 (Nat.le_of_lt (g.above b z)))), Nat.ne_of_lt (Nat.lt_of_lt_of_le (Heap.lt_size q) l0)⟩
  refine ⟨H', kp, newS, new, nS, g.nd, atS, ⟨lx, fun j t q => by simpa using on j t q⟩, ?_⟩
  refine I.call' (ch := []) rfl ⟨fun b o q _ _ _ => hk b o q, fun b o q _ _ _ => ⟨o.slots, hk b o q⟩, fun b o q n _ => ?_, fun b o q _ => ⟨o, hk b o q⟩, fun b ys q => kp b _ q, fun b o u q => kp b _ q, fun b ps q => ⟨#[], by rw [kp b _ q]; simp⟩⟩ (fun b u q => ?_) I.bare fun b z => by simp at z
  · obtain ⟨z1, z2⟩ := low b o q
    rw [off b z1 z2]
    exact n
  · by_cases hb : b ∈ as
    · obtain ⟨j, hj⟩ := List.mem_iff_getElem?.mp hb
      obtain ⟨x, x1, x2⟩ := on j b hj
      rw [x2] at q
      cases q
      obtain ⟨t, v, v1, v2⟩ := g.pairs j b hj
      obtain ⟨u', u1, u2⟩ := rv.get x1
      have ev : v = u' := by
        have q : its[j]? = some v := by simpa using v1
        rw [u1] at q
        exact (Option.some.inj q).symm
      subst ev
      refine ⟨by show 2 ≤ sizeLine; decide, [.int j t, v], .cons ⟨t, by simp⟩ (.cons u2 .nil), ⟨_, v2, rfl, _, rfl⟩⟩
    · by_cases hb2 : b = S
      · subst hb2
        rw [atS] at q
        cases q
        exact ⟨by rw [List.length_map]; omega, acc.toList, c, by rw [ac]; exact refs_vals as, by rw [Array.toArray_toList]; exact sh⟩
      · rw [off b hb hb2] at q
        exact (I.hok b u q).stay (fun d v _ y => hk d v y) (fun d y => kp d _ y) fun d ys y => kp d _ y
theorem nmem2 (m a : Nat) (q : a < m) : m + 1 ∉ [m, a] := by
  intro z
  rcases List.mem_cons.mp z with z | z
  · omega
  · have := List.mem_singleton.mp z; omega
theorem ltOf2 (m a b k : Nat) (q : a < m) (hk : k = m + 2) (z : b ∈ [m, a]) : b < k := by
  rcases List.mem_cons.mp z with z | z
  · omega
  · have := List.mem_singleton.mp z; omega
theorem no1 (m b : Nat) (q : b < m) (z : b = m + 1) : False := by omega
theorem le2 (m k : Nat) (q : k = m + 2) : m ≤ k := by omega
theorem ltk (m b k : Nat) (q : b < m) (h : k = m + 2) (z : b = k) : False := by omega
def rEnumL (K : PySem.W.Frag) : V → Hp → VK → Prop := fun x H Q => ∃ (a : Addr) (xs : List V), x = .ref a ∧ (SqL K H a xs ∨ SqT K H a xs) ∧
  ∀ (H' : Hp) (p : Addr) (ts : List Addr), (∀ b o, H b = some o → H' b = some o) → H p = none → (∀ t ∈ ts, H t = none) → p ∉ ts → ts.Nodup → H' p = some (.lst (ts.map V.ref)) → EnumT H' ts xs → Q (.ref p) H'
def tListEnum (K : PySem.W.Frag) (te : TE) : TE := fun σ H Q => te σ H fun x H1 => rEnumL K x H1 Q
variable {e : Expr} {te : TE} {p p2 pos pos2 : Pos}
theorem pe_listEnum (hc : X.calm = true) (he : PE X e te) (hg : Gl X "list") (hm : X.mg "list" = none) (hv : bootBuiltins "list" = some (.type "list")) (hg2 : Gl X "enumerate") (hm2 : X.mg "enumerate" = none)
    (hs : starEach [.Call (.Name "enumerate" p2) [e] [] pos2] X.env = [(false, eval (.Call (.Name "enumerate" p2) [e] [] pos2) X.env)] := by rfl) (hs2 : starEach [e] X.env = [(false, eval e X.env)] := by rfl) :
    PE X (.Call (.Name "list" p) [.Call (.Name "enumerate" p2) [e] [] pos2] [] pos) (tListEnum X.K te) := by
  refine ⟨fun pins s σ H Q I hq => ?_⟩
  refine wpAny_Call_Name_kw (ld_blt I hg hm hv ?_)
  refine PyProof.Rows.callWith_type1 ?_ hs rfl
  rw [hs]
  show wpAny _ _ (spliced ((false, eval (.Call (.Name "enumerate" p2) [e] [] pos2) X.env) :: backTo pos [])) _ _ s
  refine Calls.spliced_cons ?_
  refine Call_ (ld_blt I hg2 hm2 boot_enumerate ?_)
  refine PyProof.Rows.callWith_type1 ?_ hs2 rfl
  rw [hs2]
  show wpAny _ _ (spliced ((false, eval e X.env) :: backTo pos2 [])) _ _ s
  refine Calls.spliced_cons (thn (he.run pins s σ H _ I hq) fun u s1 ⟨x, H1, I1, rx, a, xs, ex, hsq, q⟩ => ?_)
  subst ex
  obtain rfl : u = Value.ref a := rx
  refine Calls.spliced_nil ?_
  have fin : ∀ (its : List Value) (h2 h3 : Heap) (tk c : Nat) (acc : Array Value) (as : List Addr) (St : Nat → Heap → Prop), Vals xs its → xs.length ≤ sizeLine → h2.objs.size = s1.heap.objs.size + 2 → (∀ b o, s1.heap.get? b = some o → h2.get? b = some o) →
      EnAt St (fun i v => its.toArray[i]? = some v) (s1.heap.objs.size + 1) s1.heap.objs.size h2.objs.size h2 h3 its.toArray.size acc c as → ∃ v H', Inv X pins σ H' { s1 with heap := h3, toks := tk } ∧ RelV v (.ref h2.objs.size) ∧ Q v H' := by
    intro its h2 h3 tk c acc as St rv hz z2 k2 z
    obtain ⟨H', k1, k3, k4, k5, k6, k7, k8, J⟩ := enums_laid (tk := tk) (S := h2.objs.size) I1 (le2 _ _ z2) hz rv (fun b o y => z.kp b o (fun w => ltk _ _ _ (Heap.lt_size y) z2 w) (fun w => no1 _ _ (Heap.lt_size y) w) (fun w => by rw [w] at y; exact Nat.lt_irrefl _ (Heap.lt_size y)) (k2 b o y)) z.sh z.ln z.gr z.ac
    exact ⟨.ref h2.objs.size, H', J, rfl, q H' _ as k1 k3 k4 k5 k6 k7 k8⟩
  have hh := I1.ok.hd hc
  rcases hsq with hsq | hsq
  · obtain ⟨its, rv, pl, hz⟩ := I1.list hsq
    have la : a < s1.heap.objs.size := pl.lt
    refine call_enumerate_list pl.isList fun h2 he hit z2 k2 => ?_
    refine Calls.spliced_nil ?_
    have D := Draws.list (prog := X.prog) (w := X.w) (A := X.A.in1.in1.in1) hh s1.heap.objs.size a (Nat.ne_of_lt la) its.toArray
    refine en_call (s := { s1 with heap := h2 }) (Nat.succ_ne_self _) (nmem2 _ _ la) (fun b hb => ltOf2 _ _ _ _ la z2 hb) (by simpa [← rv.length] using hz) D he ⟨hit, pl.isList.at fun o y => k2 a o y⟩ fun h3 tk acc c as z => ?_
    exact fin its h2 h3 tk c acc as _ rv hz z2 k2 z
  · obtain ⟨its, rv, pl, hz⟩ := I1.tuple hsq
    have la : a < s1.heap.objs.size := pl.lt
    refine gx_enum1 (begins_tuple a its.toArray) (show s1.heap.IsTuple a its.toArray from pl) fun h2 he hit z2 k2 => ?_
    refine Calls.spliced_nil ?_
    have D := Draws.tuple (prog := X.prog) (w := X.w) (A := X.A.in1.in1.in1) hh s1.heap.objs.size a (Nat.ne_of_lt la) its.toArray
    refine en_call (s := { s1 with heap := h2 }) (Nat.succ_ne_self _) (nmem2 _ _ la) (fun b hb => ltOf2 _ _ _ _ la z2 hb) (by simpa [← rv.length] using hz) D he ⟨⟨_, hit, rfl, rfl⟩, (show s1.heap.IsTuple a its.toArray from pl).at fun o y => k2 a o y⟩ fun h3 tk acc c as z => ?_
    exact fin its h2 h3 tk c acc as _ rv hz z2 k2 z
end
end GX

set_option Elab.async false
set_option linter.all false
set_option maxRecDepth 100000
set_option maxHeartbeats 4000000
namespace GX
open PySem PySem.Spec PyProof.Rows L2
section
variable {X : Cx}
/-- lcm(a, b) of numbers not too great -/
def rLcm : List V → Hp → VK → Prop := fun vs H Q => ∃ a b : Nat, vs = [.int (a : Nat), .int (b : Nat)] ∧ a < 1000000000 ∧ b < 1000000000 ∧ Q (.int ((Nat.lcm a b : Nat) : Int)) H
theorem cr_lcm : CallR X (.builtin "math.lcm") rLcm := by
  intro pins s σ H vs us Q I r h
  obtain ⟨a, b, rfl, h1, h2, q⟩ := h
  obtain ⟨t, u, rfl⟩ := Vals.int2 r
  exact PySem.W.mc_lcm (by rw [Int.natAbs_natCast]; omega) (by rw [Int.natAbs_natCast]; omega) fun _ => ⟨.int _, H, I.tok _, ⟨_, rfl⟩, by rw [Int.natAbs_natCast, Int.natAbs_natCast]; exact q⟩
/-- l[i], l a list, by values -/
theorem get_list : PGet X (fun o i H Q => ∃ p xs j x, o = .ref p ∧ i = .int ((j : Nat) : Int) ∧ SqL X.K H p xs ∧ xs[j]? = some x ∧ Q x H) := by
  intro pins s σ H o i ov iv Q I ro ri h
  obtain ⟨p, xs, j, x, rfl, rfl, hq, hx, q⟩ := h
  cases ro
  obtain ⟨t, rfl⟩ := ri
  obtain ⟨its, r, pl, hz⟩ := I.list hq
  obtain ⟨u, hu, ru⟩ := r.get hx
  have hn := line63
  have hl := r.length
  have hj : j < xs.length := (List.getElem?_eq_some_iff.mp hx).1
  exact PySem.wpAny_getItem_list pl.isList (by omega) (by omega) (by simpa using hu) ⟨x, H, I, ru, q⟩
def ipN (f : Nat → Nat → Nat) (c : Nat → Nat → Prop) : TIp := fun x y H Q => ∃ m n : Nat, x = .int (m : Nat) ∧ y = .int (n : Nat) ∧ c m n ∧ Q (.int ((f m n : Nat) : Int)) H
theorem ip_addN : PIp X .Add (ipN (fun m n => m + n) fun _ _ => True) := by
  intro pins s σ H x y v u Q I r1 r2 ⟨m, n, e1, e2, _, q⟩
  exact ip_add pins s σ H x y v u Q I r1 r2 ⟨_, _, e1, e2, by rw [Int.natCast_add] at q; exact q⟩
theorem ip_subN : PIp X .Sub (ipN (fun m n => m - n) fun m n => n ≤ m) := by
  intro pins s σ H x y v u Q I r1 r2 ⟨m, n, e1, e2, c, q⟩
  exact ip_sub pins s σ H x y v u Q I r1 r2 ⟨_, _, e1, e2, by rw [Int.natCast_sub c] at q; exact q⟩
theorem in_addN : InOp X .Add (fun x y H Q => ∃ m n : Nat, x = .int (m : Nat) ∧ y = .int (n : Nat) ∧ Q (.int ((m + n : Nat) : Int)) H) := by
  intro pins s σ H x y v u Q I r1 r2 ⟨m, n, e1, e2, q⟩
  exact in_add pins s σ H x y v u Q I r1 r2 ⟨_, _, e1, e2, by rw [Int.natCast_add] at q; exact q⟩
theorem hu_of {k : Nat} {A : Around} (r : Room k A) : A.units + 1 < cLine := by have := r.units; omega
end
end GX

set_option Elab.async false
set_option linter.all false
set_option maxRecDepth 100000
set_option maxHeartbeats 4000000
/-! list(enumerate(it)), it an iterator that lays things of its own (a zip) -/
namespace PySem
/-- an iterator: what it owns, what it gives; S the list that is being filled, e the enumerate -/
structure DrG (prog : Program) (w : World) (A : Around) (it S e : Addr) (own : List Addr) (n : Nat) (P : Nat → Value → Heap → Prop) (St : Nat → Heap → Prop) : Prop where
  live : ∀ i h, St i h → ∃ o, h.get? it = some o
  mem : it ∈ own
  lo : ∀ b ∈ own, b < e
  eS : e < S
  frame : ∀ i h h', St i h → (∀ b o, b ≠ S → b ≠ e → h.get? b = some o → h'.get? b = some o) → St i h'
  pk : ∀ i x h h', P i x h → (∀ b o, b ≠ S → b ≠ e → b ∉ own → h.get? b = some o → h'.get? b = some o) → P i x h'
  item : ∀ i (s : Shared) (Q : Value → Shared → Prop) (E : Value → Shared → Prop), i < n → St i s.heap → S < s.heap.objs.size →
    (∀ T h' tk, P i (.ref T) h' → St (i + 1) h' → (∀ b o, b ∉ own → s.heap.get? b = some o → h'.get? b = some o) → s.heap.objs.size ≤ T → T < h'.objs.size → Q (.ref T) { s with heap := h', toks := tk }) → wpAny (model prog w) A (Builtin.SmallTypes.nextOf (.ref it)) Q E s
  done : ∀ (s : Shared) (Q : Value → Shared → Prop) (E : Value → Shared → Prop), St n s.heap →
    (∀ h' tk x, (∀ b o, b ∉ own → s.heap.get? b = some o → h'.get? b = some o) → (∃ o, h'.get? x = some o ∧ o.cls = .type "StopIteration") → E (.ref x) { s with heap := h', toks := tk }) → wpAny (model prog w) A (Builtin.SmallTypes.nextOf (.ref it)) Q E s
section
variable {prog : Program} {w : World} {A : Around} {E : Value → Shared → Prop} {s : Shared}
variable {it S e : Addr} {own : List Addr} {n : Nat} {P : Nat → Value → Heap → Prop} {St : Nat → Heap → Prop}
theorem DrG.eo (D : DrG prog w A it S e own n P St) : e ∉ own := fun z => Nat.lt_irrefl _ (D.lo e z)
theorem DrG.So (D : DrG prog w A it S e own n P St) : S ∉ own := fun z => Nat.lt_irrefl _ (Nat.lt_trans (D.lo S z) D.eS)
/-- the enumerate's next, as long as the last tuple given out is there (or none was given out) -/
theorem gz_next {i : Nat} {old : Value} {Q : Value → Shared → Prop} (D : DrG prog w A it S e own n P St)
    (he : IsEnum s.heap e it i old ∨ ∃ T f oT, IsEnumHeld s.heap e it i old T f ∧ s.heap.get? T = some oT ∧ T ≠ e ∧ T ∉ own ∧ T ≠ S) (st : St i s.heap) (hS : S < s.heap.objs.size) (lt : i < n)
    (hQ : ∀ U h' tk r, P i (.ref U) h' → (∃ old' T f oT, IsEnumHeld h' e it ((i : Int) + 1) old' T f ∧ h'.get? T = some oT ∧ T ≠ e ∧ T ∉ own ∧ T ≠ S) → St (i + 1) h' → h'.get? r = some { cls := .type "tuple", data := .seq #[.int i tk, .ref U] } → s.heap.objs.size ≤ U → U < r →
      (∀ b o, b ≠ e → b ∉ own → s.heap.get? b = some o → h'.get? b = some o) → Q (.ref r) { s with heap := h', toks := tk + 1 }) :
    wpAny (model prog w) A (Builtin.«enumerate.__next__» ⟨[.ref e], []⟩) (fun fin s' => ∃ v, fin = .done (.ret v) ∧ Q v s') E s := by
  obtain ⟨hp, gg, dd, tk0, os⟩ := s
  have eo := D.eo
  rcases he with he | ⟨T, f, oT, he, oT1, t1, t2, tS⟩
  · show wpAny _ _ (field (.ref e) 2 >>= _) _ _ _
    refine wpAny_bind (wpAny_field he rfl (x := .ref it) rfl ?_)
    refine wpAny_bind (D.item i _ _ _ lt st hS fun U ha tk px sa ka z0 zU => ?_)
    replace z0 : hp.objs.size ≤ U := z0
    replace zU : U < ha.objs.size := zU
    replace ka : ∀ b o, b ∉ own → hp.get? b = some o → ha.get? b = some o := ka
    have za : hp.objs.size ≤ ha.objs.size := Nat.le_trans z0 (Nat.le_of_lt zU)
    have ea : IsEnum ha e it i old := ka e _ eo he
    show wpAny _ _ (field (.ref e) 3 >>= _) _ _ (⟨ha, gg, dd, tk, os⟩ : Shared)
    refine wpAny_bind (wpAny_field ea rfl (x := rawInt i) rfl ?_)
    show wpAny _ _ (field (.ref e) 4 >>= _) _ _ (⟨ha, gg, dd, tk, os⟩ : Shared)
    refine wpAny_bind (wpAny_field ea rfl (x := .none) rfl ?_)
    show wpAny _ _ (mkInt i >>= _) _ _ (⟨ha, gg, dd, tk, os⟩ : Shared)
    refine wpAny_bind (wpAny_mkInt ?_)
    show wpAny _ _ (setField (.ref e) 3 (rawInt ((i : Int) + 1)) >>= _) _ _ (⟨ha, gg, dd, tk + 1, os⟩ : Shared)
    refine wpAny_bind (wpAny_setField_rec ea (by simp) fun hb eb kb => ?_)
    replace kb : Heap.SameBut e ha hb := kb
    replace eb : IsEnum hb e it ((i : Int) + 1) old := eb
    show wpAny _ _ (setField (.ref e) 4 .none >>= _) _ _ (⟨hb, gg, dd, tk + 1, os⟩ : Shared)
    refine wpAny_bind (wpAny_setField_rec eb (by simp) fun hc ec kc => ?_)
    replace kc : Heap.SameBut e hb hc := kc
    replace ec : IsEnum hc e it ((i : Int) + 1) old := ec
    show wpAny _ _ (newTuple [.int i tk, .ref U] >>= _) _ _ (⟨hc, gg, dd, tk + 1, os⟩ : Shared)
    refine wpAny_bind (wpAny_newTuple ?_)
    have z1 : hc.objs.size = ha.objs.size := kc.1.trans kb.1
    have ed : IsEnum (hc.push { cls := .type "tuple", data := .seq #[.int i tk, .ref U] }) e it ((i : Int) + 1) old := Heap.get?_push_of_some _ ec
    have td : (hc.push { cls := .type "tuple", data := .seq #[.int i tk, .ref U] }).get? ha.objs.size = some { cls := .type "tuple", data := .seq #[.int i tk, .ref U] } := by
      rw [← z1]
      exact Heap.get?_push_size _ rfl
    have kd : ∀ b o, b ≠ e → ha.get? b = some o → (hc.push { cls := .type "tuple", data := .seq #[.int i tk, .ref U] }).get? b = some o := fun b o n1 q => Heap.get?_push_of_some _ (kc.extBut b o n1 (kb.extBut b o n1 q))
    generalize hc.push { cls := .type "tuple", data := .seq #[.int i tk, .ref U] } = hd at ed td kd
    show wpAny _ _ (Builtin.SmallTypes.ownedTupleIsFree (.ref e) >>= _) _ _ (⟨hd, gg, dd, tk + 1, os⟩ : Shared)
    rw [z1]
    refine wpAny_bind ?_
    unfold Builtin.SmallTypes.ownedTupleIsFree
    refine wpAny_bind (wpAny_field ed rfl (x := .none) rfl (wpAny_pure ?_))
    simp only [if_true]
    refine wpAny_bind (wpAny_rule ?_)
    refine wpAny_bind (wpAny_field ed rfl (x := old) rfl ?_)
    refine wpAny_bind (wpAny_setField_rec ed (by simp) fun h5 e5 k5 => ?_)
    replace k5 : Heap.SameBut e hd h5 := k5
    replace e5 : IsEnum h5 e it ((i : Int) + 1) (.ref U) := e5
    show wpAny _ _ (Builtin.SmallTypes.ownedTupleHandOut (.ref e) (.ref ha.objs.size) >>= _) _ _ (⟨h5, gg, dd, tk + 1, os⟩ : Shared)
    refine wpAny_bind ?_
    unfold Builtin.SmallTypes.ownedTupleHandOut
    refine wpAny_bind (wpAny_setField_rec e5 (by simp) fun h6 e6 k6 => ?_)
    replace k6 : Heap.SameBut e h5 h6 := k6
    replace e6 : IsEnumHeld h6 e it ((i : Int) + 1) (.ref U) ha.objs.size false := e6
    refine wpAny_setField_rec e6 (by simp) fun h7 e7 k7 => ?_
    replace k7 : Heap.SameBut e h6 h7 := k7
    replace e7 : IsEnumHeld h7 e it ((i : Int) + 1) (.ref U) ha.objs.size false := e7
    have up : ∀ b o, b ≠ e → hd.get? b = some o → h7.get? b = some o := fun b o n1 q => k7.extBut b o n1 (k6.extBut b o n1 (k5.extBut b o n1 q))
    have le : e < ha.objs.size := Nat.lt_of_lt_of_le (Heap.lt_size he) za
    have ne : ha.objs.size ≠ e := Nat.ne_of_gt le
    refine wpAny_bind (wpAny_letGo (wpAny_pure ⟨_, rfl, hQ U h7 tk ha.objs.size ?_ ⟨.ref U, ha.objs.size, false, _, e7, up _ _ ne td, ne, fun z => ?_, ?_⟩ ?_ (up _ _ ne td) z0 zU ?_⟩))
    · exact D.pk _ _ _ _ px fun b o _ n2 _ q => up b o n2 (kd b o n2 q)
    · exact Nat.lt_asymm le (D.lo _ z)
    · exact Nat.ne_of_gt (Nat.lt_of_lt_of_le hS za)
    · exact D.frame _ _ _ sa fun b o _ n2 q => up b o n2 (kd b o n2 q)
    · exact fun b o n1 n2 q => up b o n1 (kd b o n1 (ka b o n2 q))
  · show wpAny _ _ (field (.ref e) 2 >>= _) _ _ _
    refine wpAny_bind (wpAny_field he rfl (x := .ref it) rfl ?_)
    refine wpAny_bind (D.item i _ _ _ lt st hS fun U ha tk px sa ka z0 zU => ?_)
    replace z0 : hp.objs.size ≤ U := z0
    replace zU : U < ha.objs.size := zU
    replace ka : ∀ b o, b ∉ own → hp.get? b = some o → ha.get? b = some o := ka
    have za : hp.objs.size ≤ ha.objs.size := Nat.le_trans z0 (Nat.le_of_lt zU)
    have ea : IsEnumHeld ha e it i old T f := ka e _ eo he
    show wpAny _ _ (field (.ref e) 3 >>= _) _ _ (⟨ha, gg, dd, tk, os⟩ : Shared)
    refine wpAny_bind (wpAny_field ea rfl (x := rawInt i) rfl ?_)
    show wpAny _ _ (field (.ref e) 4 >>= _) _ _ (⟨ha, gg, dd, tk, os⟩ : Shared)
    refine wpAny_bind (wpAny_field ea rfl (x := .none) rfl ?_)
    show wpAny _ _ (mkInt i >>= _) _ _ (⟨ha, gg, dd, tk, os⟩ : Shared)
    refine wpAny_bind (wpAny_mkInt ?_)
    show wpAny _ _ (setField (.ref e) 3 (rawInt ((i : Int) + 1)) >>= _) _ _ (⟨ha, gg, dd, tk + 1, os⟩ : Shared)
    refine wpAny_bind (wpAny_setField_rec ea (by simp) fun hb eb kb => ?_)
    replace kb : Heap.SameBut e ha hb := kb
    replace eb : IsEnumHeld hb e it ((i : Int) + 1) old T f := eb
    show wpAny _ _ (setField (.ref e) 4 .none >>= _) _ _ (⟨hb, gg, dd, tk + 1, os⟩ : Shared)
    refine wpAny_bind (wpAny_setField_rec eb (by simp) fun hc ec kc => ?_)
    replace kc : Heap.SameBut e hb hc := kc
    replace ec : IsEnumHeld hc e it ((i : Int) + 1) old T f := ec
    show wpAny _ _ (newTuple [.int i tk, .ref U] >>= _) _ _ (⟨hc, gg, dd, tk + 1, os⟩ : Shared)
    refine wpAny_bind (wpAny_newTuple ?_)
    have z1 : hc.objs.size = ha.objs.size := kc.1.trans kb.1
    have ed : IsEnumHeld (hc.push { cls := .type "tuple", data := .seq #[.int i tk, .ref U] }) e it ((i : Int) + 1) old T f := Heap.get?_push_of_some _ ec
    have td : (hc.push { cls := .type "tuple", data := .seq #[.int i tk, .ref U] }).get? ha.objs.size = some { cls := .type "tuple", data := .seq #[.int i tk, .ref U] } := by
      rw [← z1]
      exact Heap.get?_push_size _ rfl
    have kd : ∀ b o, b ≠ e → ha.get? b = some o → (hc.push { cls := .type "tuple", data := .seq #[.int i tk, .ref U] }).get? b = some o := fun b o n1 q => Heap.get?_push_of_some _ (kc.extBut b o n1 (kb.extBut b o n1 q))
    generalize hc.push { cls := .type "tuple", data := .seq #[.int i tk, .ref U] } = hd at ed td kd
    show wpAny _ _ (Builtin.SmallTypes.ownedTupleIsFree (.ref e) >>= _) _ _ (⟨hd, gg, dd, tk + 1, os⟩ : Shared)
    rw [z1]
    have oTd := kd T oT t1 (ka T oT t2 oT1)
    refine wpAny_bind (wpAny_tupleHeld_enum (s := ⟨hd, gg, dd, tk + 1, os⟩) ed oTd fun hf ef kf => ?_)
    replace kf : Heap.SameBut e hd hf := kf
    simp only [Bool.false_eq_true, if_false]
    have le : e < ha.objs.size := Nat.lt_of_lt_of_le (Heap.lt_size he) za
    refine wpAny_pure ⟨_, rfl, hQ U hf tk ha.objs.size ?_ ⟨old, T, true, oT, ef, kf.extBut _ _ t1 oTd, t1, t2, tS⟩ ?_ (kf.extBut _ _ (Nat.ne_of_gt le) td) z0 zU ?_⟩
    · exact D.pk _ _ _ _ px fun b o _ n2 _ q => kf.extBut b o n2 (kd b o n2 q)
    · exact D.frame _ _ _ sa fun b o _ n2 q => kf.extBut b o n2 (kd b o n2 q)
    · exact fun b o n1 n2 q => kf.extBut b o n1 (kd b o n1 (ka b o n2 q))
/-- the enumerate ahead of turn i -/
def EnZ (own : List Addr) (St : Nat → Heap → Prop) (h : Heap) (e it S : Addr) (i : Nat) : Prop := St i h ∧ ((∃ old, IsEnum h e it i old) ∨ ∃ old T f oT, IsEnumHeld h e it i old T f ∧ h.get? T = some oT ∧ T ≠ e ∧ T ∉ own ∧ T ≠ S)
theorem EnZ.keep {h h' : Heap} {i : Nat} (st : EnZ own St h e it S i) (D : DrG prog w A it S e own n P St) (k : ∀ b o, b ≠ S → h.get? b = some o → h'.get? b = some o) : EnZ own St h' e it S i := by
  obtain ⟨st, q⟩ := st
  have nE : e ≠ S := Nat.ne_of_lt D.eS
  refine ⟨D.frame _ _ _ st fun b o n1 _ y => k b o n1 y, ?_⟩
  rcases q with ⟨old, q⟩ | ⟨old, T, f, oT, q, y, r1, r2, r3⟩
  · exact .inl ⟨old, k e _ nE q⟩
  · exact .inr ⟨old, T, f, oT, k e _ nE q, k T oT r3 y, r1, r2, r3⟩
theorem gz_item {i : Nat} {Q : Option Value → Shared → Prop} (D : DrG prog w A.in1 it S e own n P St) (hS : S < s.heap.objs.size) (st : EnZ own St s.heap e it S i) (lt : i < n)
    (hQ : ∀ U h' tk r, P i (.ref U) h' → EnZ own St h' e it S (i + 1) → h'.get? r = some { cls := .type "tuple", data := .seq #[.int i tk, .ref U] } → s.heap.objs.size ≤ U → U < r → (∀ b o, b ≠ e → b ∉ own → s.heap.get? b = some o → h'.get? b = some o) → Q (some (.ref r)) { s with heap := h', toks := tk + 1 }) :
    wpAny (model prog w) A (pyNext (.ref e)) Q E s := by
  obtain ⟨st, q⟩ := st
  have ec : ((i + 1 : Nat) : Int) = (i : Int) + 1 := by omega
  have run : ∀ old, (IsEnum s.heap e it i old ∨ ∃ T f oT, IsEnumHeld s.heap e it i old T f ∧ s.heap.get? T = some oT ∧ T ≠ e ∧ T ∉ own ∧ T ≠ S) → s.TypeIs (.ref e) "enumerate" → wpAny (model prog w) A (pyNext (.ref e)) Q E s := by
    intro old he hy
    unfold pyNext
    refine wpAny_bind (wpAny_attempt (wpAny_callSpecial?_slot (name := Str.ofString "__next__") hy F.slot_enumerate_next (wpAny_call_entry F.slot_enumerate_next hy F.entry_enumerate_next
      (gz_next D he st hS lt fun U h' tk r px hh st' hr zr zu hk => wpAny_pure (hQ U h' tk r px ⟨st', .inr ?_⟩ hr zr zu hk)) (F.args_enumerate_next_1 _))))
    rw [ec]
    exact hh
  rcases q with ⟨old, q⟩ | ⟨old, T, f, oT, q, y, r1, r2, r3⟩
  · exact run old (.inl q) ⟨_, q, rfl⟩
  · exact run old (.inr ⟨T, f, oT, q, y, r1, r2, r3⟩) ⟨_, q, rfl⟩
theorem gz_done {Q : Option Value → Shared → Prop} (D : DrG prog w A.in1 it S e own n P St) (st : EnZ own St s.heap e it S n) (hQ : ∀ h' tk, (∀ b o, b ∉ own → s.heap.get? b = some o → h'.get? b = some o) → Q none { s with heap := h', toks := tk }) : wpAny (model prog w) A (pyNext (.ref e)) Q E s := by
  obtain ⟨st, q⟩ := st
  have go : ∀ (hy : s.TypeIs (.ref e) "enumerate") (obj : Obj), s.heap.get? e = some obj → (∃ a b c d f', obj = { cls := .type "enumerate", dict := none, data := .fields #[a, b, .ref it, c, d, f'], slots := #[] }) → wpAny (model prog w) A (pyNext (.ref e)) Q E s := by
    rintro hy obj q ⟨a, b, c, d, f', rfl⟩
    unfold pyNext
    refine wpAny_bind (wpAny_attempt (wpAny_callSpecial?_slot (name := Str.ofString "__next__") hy F.slot_enumerate_next (wpAny_call_entry F.slot_enumerate_next hy F.entry_enumerate_next ?_ (F.args_enumerate_next_1 _))))
    show wpAny _ _ (field (.ref e) 2 >>= _) _ _ _
    refine wpAny_bind (wpAny_field q rfl (x := .ref it) rfl ?_)
    refine wpAny_bind (D.done _ _ _ st fun h' tk x he' hx' => ?_)
    obtain ⟨o, ho, hc⟩ := hx'
    exact wpAny_bind (wpAny_isInstance (T := "StopIteration") (b := true) ⟨o, ho, hc⟩ isSubtype_stop (wpAny_pure (hQ _ _ he')))
  rcases q with ⟨old, q⟩ | ⟨old, T, f, oT, q, y, r1, r2, r3⟩
  · exact go ⟨_, q, rfl⟩ _ q ⟨_, _, _, _, _, rfl⟩
  · exact go ⟨_, q, rfl⟩ _ q ⟨_, _, _, _, _, rfl⟩
end
end PySem

set_option Elab.async false
set_option linter.all false
set_option maxRecDepth 100000
set_option maxHeartbeats 4000000
namespace PySem
section
variable {prog : Program} {w : World} {A : Around} {s : Shared} {Z : Result → Shared → Prop}
variable {e it S : Addr} {own : List Addr} {n : Nat} {P : Nat → Value → Heap → Prop} {St : Nat → Heap → Prop}
/-- the tuples given out so far -/
structure GzG (P : Nat → Value → Heap → Prop) (lo : Addr) (h : Heap) (qs : List (Addr × Addr)) : Prop where
  ord : qs.Pairwise fun p q => p.2 < q.1
  above : ∀ p ∈ qs, lo < p.1 ∧ p.1 < p.2
  pairs : ∀ (j : Nat) (p : Addr × Addr), qs[j]? = some p → ∃ tk, P j (.ref p.1) h ∧ h.get? p.2 = some { cls := .type "tuple", data := .seq #[.int j tk, .ref p.1] }
/-- the list S is being filled from e: i tuples are out -/
structure GzAt (P : Nat → Value → Heap → Prop) (own : List Addr) (e S : Addr) (h0 h : Heap) (i : Nat) (acc : Array Value) (c : Nat) (as : List (Addr × Addr)) : Prop where
  sh : h.get? S = some { cls := .type "list", dict := none, data := .seq acc c, slots := #[] }
  ac : acc.toList = as.map fun p => Value.ref p.2
  ln : as.length = i
  gr : GzG P S h as
  kp : ∀ b o, b ≠ S → b ≠ e → b ∉ own → h0.get? b = some o → h.get? b = some o
theorem gz_fill (hn : n ≤ sizeLine) (D : DrG prog w A.in1.in1 it S e own n P St) (res : Value) {h0 : Heap}
    (hZ : ∀ h' tk acc c as, GzAt P own e S h0 h' n acc c as → Z (.ok (.ret res)) { s with heap := h', toks := tk }) :
    ∀ (k i : Nat) (h : Heap) (tk c : Nat) (acc : Array Value) (as : List (Addr × Addr)), n - i = k → i ≤ n → EnZ own St h e it S i → GzAt P own e S h0 h i acc c as →
      codeAny (model prog w) A (.builtin "list.extend.loop" ⟨[.ref S, .ref e, res], []⟩) Z { s with heap := h, toks := tk } := by
  have So := D.So
  have eS := D.eS
  intro k
  induction k with
  | zero =>
    intro i h tk c acc as e0 le st at0
    obtain rfl : i = n := by omega
    refine codeAny_builtin F.entry_extend_loop ?_
    rw [Around.under_plainId F.plain_extend_loop _]
    show wpAny _ A.in1 (pyNext (.ref e) >>= _) _ _ _
    refine wpAny_bind (gz_done (s := { s with heap := h, toks := tk }) D st fun h' tk' ex => ?_)
    exact wpAny_pure (hZ h' tk' acc c as ⟨ex S _ So at0.sh, at0.ac, at0.ln, ⟨at0.gr.ord, at0.gr.above, fun j p q => let ⟨t, z1, z2⟩ := at0.gr.pairs j p q; ⟨t, D.pk _ _ _ _ z1 fun b o _ _ n3 y => ex b o n3 y, ex p.2 _ (fun y => Nat.lt_asymm (Nat.lt_trans (at0.gr.above p (List.mem_of_getElem? q)).1 (at0.gr.above p (List.mem_of_getElem? q)).2) (Nat.lt_trans (D.lo p.2 y) eS)) z2⟩⟩, fun b o z1 z2 z3 z4 => ex b o z3 (at0.kp b o z1 z2 z3 z4)⟩)
  | succ k more =>
    intro i h tk c acc as e0 le st at0
    have lt : i < n := by omega
    have z0 : acc.size = i := by rw [← Array.length_toList, at0.ac, List.length_map, at0.ln]
    have lS : S < h.objs.size := Heap.lt_size at0.sh
    refine codeAny_builtin F.entry_extend_loop ?_
    rw [Around.under_plainId F.plain_extend_loop _]
    show wpAny _ A.in1 (pyNext (.ref e) >>= _) _ _ _
    refine wpAny_bind (gz_item (s := { s with heap := h, toks := tk }) D lS st lt fun U h1 tk1 r px st1 hT zU zr k1 => ?_)
    dsimp only at hT k1 zU ⊢
    have SU : S < U := Nat.lt_of_lt_of_le lS zU
    have Sr : S < r := Nat.lt_trans SU zr
    have sh1 := k1 S _ (Nat.ne_of_gt eS) So at0.sh
    have k2 : ∀ b o, b ≠ S → h1.get? b = some o → (h1.update S (Obj.mapSeq (·.push (Value.ref r)))).get? b = some o := fun b o q z => (Heap.get?_update_other _ _ (Ne.symm q)).trans z
    have k3 : ∀ b o, b ≠ S → b ≠ e → b ∉ own → h.get? b = some o → (h1.update S (Obj.mapSeq (·.push (Value.ref r)))).get? b = some o := fun b o q1 q2 q3 z => k2 b o q1 (k1 b o q2 q3 z)
    show wpAny _ A.in1 (updateSeq S (·.push (Value.ref r)) >>= _) _ _ _
    refine wpAny_bind (wpAny_updateSeq sh1 rfl (wpAny_pure ⟨plainId_quiet F.plain_extend_loop _, more (i + 1) _ _ _ (acc.push (Value.ref r)) (as ++ [(U, r)]) (by omega) lt (st1.keep D k2) ⟨Heap.get?_update_self _ sh1 rfl, ?_, ?_, ⟨?_, ?_, ?_⟩, ?_⟩⟩) (by rw [z0]; omega) (by show (acc.push (Value.ref r)).size ≤ sizeLine + 1; rw [Array.size_push, z0]; omega))
    · rw [Array.toList_push, at0.ac, List.map_append]; rfl
    · rw [List.length_append, at0.ln]; rfl
    · refine List.pairwise_append.mpr ⟨at0.gr.ord, List.pairwise_singleton _ _, fun p hp q hq => ?_⟩
      obtain ⟨j, hj⟩ := List.mem_iff_getElem?.mp hp
      obtain ⟨_, _, z⟩ := at0.gr.pairs j p hj
      rw [List.mem_singleton.mp hq]
      exact Nat.lt_of_lt_of_le (Heap.lt_size z) zU
    · intro p hp
      rcases List.mem_append.mp hp with hp | hp
      · exact at0.gr.above p hp
      · rw [List.mem_singleton.mp hp]; exact ⟨SU, zr⟩
    · intro j p hj
      by_cases hl : j < as.length
      · rw [List.getElem?_append_left hl] at hj
        obtain ⟨t, z1, z2⟩ := at0.gr.pairs j p hj
        obtain ⟨b1, b2⟩ := at0.gr.above p (List.mem_of_getElem? hj)
        have ab : S < p.2 := Nat.lt_trans b1 b2
        exact ⟨t, D.pk _ _ _ _ z1 fun b o q1 q2 q3 z => k3 b o q1 q2 q3 z, k3 p.2 _ (Nat.ne_of_gt ab) (Nat.ne_of_gt (Nat.lt_trans eS ab)) (fun y => Nat.lt_asymm ab (Nat.lt_trans (D.lo p.2 y) eS)) z2⟩
      · rw [List.getElem?_append_right (Nat.le_of_not_lt hl)] at hj
        have hj0 : j - as.length = 0 := by
          cases hd : j - as.length with
          | zero => rfl
          | succ m => rw [hd] at hj; simp at hj
        rw [hj0] at hj
        obtain rfl : (U, r) = p := by simpa using hj
        obtain rfl : j = i := by have := at0.ln; omega
        exact ⟨tk1, D.pk _ _ _ _ px fun b o q1 _ _ z => k2 b o q1 z, k2 _ _ (Nat.ne_of_gt Sr) hT⟩
    · exact fun b o q1 q2 q3 z => k3 b o q1 q2 q3 (at0.kp b o q1 q2 q3 z)
theorem gz_extend (hn : n ≤ sizeLine) (D : DrG prog w A.in1.in1 it S e own n P St) (res : Value) {c0 : Nat} (sh : s.heap.get? S = some { cls := .type "list", data := .seq #[] c0 }) (q : IsEnum s.heap e it 0 .none) (st : St 0 s.heap)
    (hZ : ∀ h' tk acc c as, GzAt P own e S s.heap h' n acc c as → Z (.ok (.ret res)) { s with heap := h', toks := tk }) :
    wpAny (model prog w) A.in1 (Builtin.List.listExtendWith (.ref S) (.ref e) res)
      (fun fin s' => match fin with | .done f => Z (.ok f) s' | .again c' => c'.quiet = true ∧ codeAny (model prog w) A c' Z s') (fun x s' => Z (.error x) s') s := by
  have ty : s.TypeIs (.ref e) "enumerate" := ⟨_, q, rfl⟩
  have n1 : Builtin.List.listSameRef (.ref S) (.ref e) = false := by simp [Builtin.List.listSameRef, Nat.ne_of_gt D.eS]
  have n2 : (Value.type "enumerate" == Value.type "list") = false := by decide
  have n3 : (Value.type "enumerate" == Value.type "tuple") = false := by decide
  unfold Builtin.List.listExtendWith
  refine wpAny_bind (wpAny_typeOf ty ?_)
  simp only [n1, n2, n3, Bool.or_false, Bool.false_eq_true, if_false]
  refine wpAny_bind (wpAny_pyIter_enum q ?_)
  refine wpAny_bind (wpAny_holding (en_hint ty ?_))
  show wpAny _ A.in1 (rule "list.extend.makes-room" >>= fun _ => Builtin.List.listTouch (.ref S) >>= fun _ => again (.builtin "list.extend.loop" ⟨[.ref S, .ref e, res], []⟩)) _ _ _
  refine wpAny_bind (wpAny_rule ?_)
  refine wpAny_bind ?_
  show wpAny _ _ (updateSeq S (·.push .none) >>= fun _ => updateSeq S (·.pop)) _ _ _
  refine wpAny_bind (wpAny_updateSeq sh rfl ?_)
  have sh1 := Heap.get?_update_self (Obj.mapSeq (·.push Value.none)) sh rfl
  refine wpAny_updateSeq (hz := by seq_fits) sh1 rfl ?_
  have sh2 := Heap.get?_update_self (Obj.mapSeq (·.pop)) sh1 rfl
  have k : ∀ b o, b ≠ S → s.heap.get? b = some o → ((s.heap.update S (Obj.mapSeq (·.push Value.none))).update S (Obj.mapSeq (·.pop))).get? b = some o := fun b o y z => (Heap.get?_update_other _ _ (Ne.symm y)).trans ((Heap.get?_update_other _ _ (Ne.symm y)).trans z)
  have st1 : EnZ own St s.heap e it S 0 := ⟨st, .inl ⟨.none, q⟩⟩
  exact wpAny_pure ⟨plainId_quiet F.plain_extend_loop _, gz_fill (s := s) (h0 := s.heap) hn D res hZ n 0 _ s.toks _ #[] [] (Nat.sub_zero _) (Nat.zero_le _) (st1.keep D k) ⟨sh2, rfl, rfl, ⟨.nil, (fun _ z => nomatch z), fun j a z => by simp at z⟩, fun b o y _ _ z => k b o y z⟩⟩
theorem gz_init (hn : n ≤ sizeLine) (D : DrG prog w A.in1.in1 it S e own n P St) (sh : s.heap.get? S = some { cls := .type "list", data := .seq #[] }) (q : IsEnum s.heap e it 0 .none) (st : St 0 s.heap)
    (hZ : ∀ h' tk acc c as, GzAt P own e S s.heap h' n acc c as → Z (.ok (.ret .none)) { s with heap := h', toks := tk }) :
    wpAny (model prog w) A.in1 (Builtin.«list.__init__» ⟨[.ref S, .ref e], []⟩)
      (fun fin s' => match fin with | .done f => Z (.ok f) s' | .again c' => c'.quiet = true ∧ codeAny (model prog w) A c' Z s') (fun x s' => Z (.error x) s') s := by
  have nE : e ≠ S := Nat.ne_of_lt D.eS
  show wpAny _ _ (Builtin.List.listItems (.ref S) >>= fun old => Builtin.List.listUpdate (.ref S) (fun _ => #[]) >>= fun _ => letGo old.toList.reverse >>= fun _ => Builtin.List.listExtendWith (.ref S) (.ref e) .none) _ _ s
  refine wpAny_bind ?_
  unfold Builtin.List.listItems
  refine wpAny_bind (wpAny_seqItems sh rfl (wpAny_pure ?_))
  show wpAny _ _ (updateSeq S (fun _ => #[]) >>= fun _ => letGo (#[] : Array Value).toList.reverse >>= fun _ => Builtin.List.listExtendWith (.ref S) (.ref e) .none) _ _ s
  refine wpAny_bind (wpAny_updateSeq sh rfl ?_)
  have sh1 := Heap.get?_update_self (Obj.mapSeq (fun _ => (#[] : Array Value))) sh rfl
  have k : ∀ b o, b ≠ S → s.heap.get? b = some o → (s.heap.update S (Obj.mapSeq (fun _ => (#[] : Array Value)))).get? b = some o := fun b o y z => (Heap.get?_update_other _ _ (Ne.symm y)).trans z
  refine wpAny_bind (wpAny_letGo ?_)
  exact gz_extend hn D .none sh1 (k _ _ nE q) (D.frame _ _ _ st fun b o n1 _ z => k b o n1 z) fun h' tk acc c as z => hZ h' tk acc c as ⟨z.sh, z.ac, z.ln, z.gr, fun b o y1 y2 y3 y => z.kp b o y1 y2 y3 (k b o y1 y)⟩
theorem gz_call {Q : Value → Shared → Prop} {E : Value → Shared → Prop} (hn : n ≤ sizeLine) (D : DrG prog w A.in1.in1.in1 it s.heap.objs.size e own n P St) (q : IsEnum s.heap e it 0 .none) (st : St 0 (s.heap.push { cls := .type "list", data := .seq #[] }))
    (hQ : ∀ h' tk acc c as, GzAt P own e s.heap.objs.size s.heap h' n acc c as → Q (.ref s.heap.objs.size) { s with heap := h', toks := tk }) :
    wpAny (model prog w) A (call (.type "list") [.ref e]) Q E s := by
  refine callType_codes (Q₁ := fun v s1 => v = .ref s.heap.objs.size ∧ s1 = { s with heap := s.heap.push { cls := .type "list", data := .seq #[] } }) F.called_list (F.typeCall_list_1 _) F.entry_list_init (code_list_new _ ⟨rfl, rfl⟩) fun v s1 y => ?_
  obtain ⟨rfl, rfl⟩ := y
  have sh : (s.heap.push { cls := .type "list", data := .seq #[] }).get? s.heap.objs.size = some { cls := .type "list", data := .seq #[] } := Heap.get?_push_size _ rfl
  refine ⟨⟨_, sh, rfl⟩, F.args_list_init_2 _ _, gz_init (A := A.in1) hn D sh (Heap.get?_push_of_some _ q) st fun h' tk acc c as z => ?_⟩
  exact ⟨rfl, hQ h' tk acc c as ⟨z.sh, z.ac, z.ln, z.gr, fun b o y1 y2 y3 y => z.kp b o y1 y2 y3 (Heap.get?_push_of_some _ y)⟩⟩
end
end PySem

set_option Elab.async false
set_option linter.all false
set_option maxRecDepth 100000
set_option maxHeartbeats 4000000
namespace PySem
section
variable {prog : Program} {w : World} {A : Around} {E : Value → Shared → Prop} {s : Shared} {z TI TO i1 i2 : Addr} {fp1 fp2 : List Addr} {n1 n2 i : Nat} {P1 P2 : Nat → Value → Prop} {St1 St2 : Nat → Heap → Prop} {a1 a2 : Value}
theorem gz_zip_held {T : Addr} {f : Bool} {oT : Obj} {Q : Value → Shared → Prop} (S : ZipSep2 z TI TO i1 i2 fp1 fp2) (D1 : Draws prog w A i1 fp1 n1 P1 St1) (D2 : Draws prog w A i2 fp2 n2 P2 St2)
    (hz : IsZipHeld s.heap z TI TO T f) (hT : s.heap.get? T = some oT) (hTI : IsTupOf2 s.heap TI (.ref i1) (.ref i2)) (st1 : St1 i s.heap) (st2 : St2 i s.heap) (hlt1 : i < n1) (hlt2 : i < n2)
    (hQ : ∀ x1 x2 h' tk, P1 i x1 → P2 i x2 → IsZipHeld h' z TI TO T true → St1 (i + 1) h' → St2 (i + 1) h' → IsTupOf2 h' s.heap.objs.size x1 x2 → h'.objs.size = s.heap.objs.size + 1 →
      (∀ c o, c ≠ z → c ≠ i1 → c ≠ i2 → s.heap.get? c = some o → h'.get? c = some o) → Q (.ref s.heap.objs.size) { s with heap := h', toks := tk }) :
    wpAny (model prog w) A (Builtin.«zip.__next__» ⟨[.ref z], []⟩) (fun fin s' => ∃ v, fin = .done (.ret v) ∧ Q v s') E s := by
  obtain ⟨hp, g, d, tk0, os⟩ := s
  show wpAny _ _ (field (.ref z) 2 >>= _) _ _ _
  refine wpAny_bind (wpAny_field hz rfl (x := .bool false) rfl ?_)
  show wpAny _ _ (field (.ref z) 3 >>= _) _ _ _
  refine wpAny_bind (wpAny_field hz rfl (x := .ref TI) rfl ?_)
  refine wpAny_bind (wpAny_seqItems hTI rfl ?_)
  show wpAny _ _ (Builtin.SmallTypes.ownedTupleIsFree (.ref z) >>= _) _ _ _
  refine wpAny_bind (wpAny_tupleHeld_zip hz hT fun g0 hz0 hs0 => ?_)
  replace hs0 : Heap.SameBut z hp g0 := hs0
  simp only [Bool.false_eq_true, if_false]
  refine wpAny_bind ?_
  rw [← Array.forIn_toList]
  simp only [List.forIn_cons, List.forIn_nil]
  refine wpAny_bind (wpAny_bind (wpAny_holding ?_))
  show wpAny _ _ (Builtin.SmallTypes.nextOf (.ref i1) >>= _) _ _ ⟨g0, g, d, tk0, os⟩
  refine wpAny_bind (D1.item i _ _ _ hlt1 (D1.over st1 hs0 S.zf1) fun x1 p1 tk1 hx1 sn1 hp1 => wpAny_pure ?_)
  replace hp1 : Heap.SameBut i1 g0 p1 := hp1
  refine wpAny_pure ?_
  refine wpAny_bind (wpAny_bind (wpAny_holding ?_))
  show wpAny _ _ (Builtin.SmallTypes.nextOf (.ref i2) >>= _) _ _ ⟨p1, g, d, tk1, os⟩
  refine wpAny_bind (D2.item i _ _ _ hlt2 (D2.over (D2.over st2 hs0 S.zf2) hp1 S.sep1_2) fun x2 p2 tk2 hx2 sn2 hp2 => wpAny_pure ?_)
  replace hp2 : Heap.SameBut i2 p1 p2 := hp2
  refine wpAny_pure (wpAny_pure ?_)
  show wpAny _ _ (newTuple [x1, x2] >>= _) _ _ ⟨p2, g, d, tk2, os⟩
  refine wpAny_bind (wpAny_newTuple ?_)
  have hsz : p2.objs.size = hp.objs.size := by rw [hp2.1, hp1.1, hs0.1]
  have hzz : IsZipHeld p2 z TI TO T true := hp2.extBut _ _ S.zi2 (hp1.extBut _ _ S.zi1 hz0)
  have hk : ∀ c o, c ≠ z → c ≠ i1 → c ≠ i2 → hp.get? c = some o → p2.get? c = some o := fun c o cz c1 c2 e => hp2.extBut _ _ c2 (hp1.extBut _ _ c1 (hs0.extBut _ _ cz e))
  have hj1 : St1 (i + 1) p2 := D1.over sn1 hp2 S.sep2_1
  refine wpAny_pure ⟨_, rfl, ?_⟩
  show Q (.ref p2.objs.size) ⟨_, g, d, tk2, os⟩
  have hp' : IsTupOf2 (p2.push { cls := .type "tuple", data := .seq #[x1, x2] }) p2.objs.size x1 x2 := Heap.get?_push_size _ rfl
  have hz4 : (p2.push { cls := .type "tuple", data := .seq #[x1, x2] }).objs.size = p2.objs.size + 1 := Heap.size_push ..
  rw [hsz] at hp' hz4 ⊢
  exact hQ x1 x2 _ tk2 hx1 hx2 (Heap.get?_push_of_some _ hzz) (D1.frame _ _ _ hj1 fun b hb o e => Heap.get?_push_of_some _ e) (D2.frame _ _ _ sn2 fun b hb o e => Heap.get?_push_of_some _ e) hp' hz4 fun c o cz c1 c2 e => Heap.get?_push_of_some _ (hk c o cz c1 c2 e)
theorem gz_zip_held_end {T : Addr} {f : Bool} {oT : Obj} {Q : Fin → Shared → Prop} (S : ZipSep2 z TI TO i1 i2 fp1 fp2) (D1 : Draws prog w A i1 fp1 n1 P1 St1) (D2 : Draws prog w A i2 fp2 n2 P2 St2)
    (hz : IsZipHeld s.heap z TI TO T f) (hT : s.heap.get? T = some oT) (hTI : IsTupOf2 s.heap TI (.ref i1) (.ref i2)) (st1 : St1 i s.heap) (st2 : St2 i s.heap) (h1 : i = n1)
    (hE : ∀ h' tk e, (∀ c o, c ≠ z → c ≠ i1 → c ≠ i2 → s.heap.get? c = some o → h'.get? c = some o) → (∃ o, h'.get? e = some o ∧ o.cls = .type "StopIteration") → E (.ref e) { s with heap := h', toks := tk }) :
    wpAny (model prog w) A (Builtin.«zip.__next__» ⟨[.ref z], []⟩) Q E s := by
  obtain ⟨hp, g, d, tk0, os⟩ := s
  show wpAny _ _ (field (.ref z) 2 >>= _) _ _ _
  refine wpAny_bind (wpAny_field hz rfl (x := .bool false) rfl ?_)
  show wpAny _ _ (field (.ref z) 3 >>= _) _ _ _
  refine wpAny_bind (wpAny_field hz rfl (x := .ref TI) rfl ?_)
  refine wpAny_bind (wpAny_seqItems hTI rfl ?_)
  show wpAny _ _ (Builtin.SmallTypes.ownedTupleIsFree (.ref z) >>= _) _ _ _
  refine wpAny_bind (wpAny_tupleHeld_zip hz hT fun g0 hz0 hs0 => ?_)
  replace hs0 : Heap.SameBut z hp g0 := hs0
  simp only [Bool.false_eq_true, if_false]
  refine wpAny_bind ?_
  rw [← Array.forIn_toList]
  simp only [List.forIn_cons, List.forIn_nil]
  refine wpAny_bind (wpAny_bind (wpAny_holding ?_))
  show wpAny _ _ (Builtin.SmallTypes.nextOf (.ref i1) >>= _) _ _ ⟨g0, g, d, tk0, os⟩
  refine wpAny_bind (D1.done ⟨g0, g, d, tk0, os⟩ _ _ (by rw [← h1]; exact D1.over st1 hs0 S.zf1) fun q e hq he => ?_)
  replace hq : Heap.ExtBut i1 g0 q := hq
  exact hE q tk0 e (fun c o cz c1 c2 x => hq _ _ c1 (hs0.extBut _ _ cz x)) he
/-- what stands ahead of turn i of the zip -/
def ZipSt (St1 St2 : Nat → Heap → Prop) (z TI TO i1 i2 S e : Addr) (i : Nat) (h : Heap) : Prop := IsTupOf2 h TI (.ref i1) (.ref i2) ∧ St1 i h ∧ St2 i h ∧
  ((IsZip h z TI TO .none ∧ ∃ a1 a2, IsTupOf2 h TO a1 a2) ∨ ∃ T f oT, IsZipHeld h z TI TO T f ∧ h.get? T = some oT ∧ T ≠ z ∧ T ≠ TO ∧ T ≠ i1 ∧ T ≠ i2 ∧ T ≠ S ∧ T ≠ e)
theorem nextOf_zip {z : Addr} {Q : Value → Shared → Prop} (hy : s.TypeIs (.ref z) "zip") (h : wpAny (model prog w) A.in1 (Builtin.«zip.__next__» ⟨[.ref z], []⟩) (fun fin s' => ∃ v, fin = .done (.ret v) ∧ Q v s') E s) : wpAny (model prog w) A (Builtin.SmallTypes.nextOf (.ref z)) Q E s := by
  unfold Builtin.SmallTypes.nextOf
  refine wpAny_bind (wpAny_callSpecial?_slot (name := Str.ofString "__next__") hy F.slot_zip_next (wpAny_call_entry F.slot_zip_next hy F.entry_zip_next ?_ (F.args_zip_next_1 _)))
  refine wpAny_mono h (fun fin s' ⟨v, e, q⟩ => ⟨v, e, wpAny_pure q⟩) fun _ _ q => q
end
end PySem

set_option Elab.async false
set_option linter.all false
set_option maxRecDepth 100000
set_option maxHeartbeats 4000000
namespace PySem
section
variable {prog : Program} {w : World} {A : Around} {E : Value → Shared → Prop} {s : Shared} {z TI TO i1 i2 S e : Addr} {fp1 fp2 : List Addr} {n : Nat} {P1 P2 : Nat → Value → Prop} {St1 St2 : Nat → Heap → Prop}
theorem DrG.zip (Sp : ZipSep2 z TI TO i1 i2 fp1 fp2) (D1 : Draws prog w A.in1 i1 fp1 n P1 St1) (D2 : Draws prog w A.in1 i2 fp2 n P2 St2) (eS : e < S) (lz : z < e) (lI : TI < e) (lO : TO < e) (l1 : i1 < e) (l2 : i2 < e) (f1 : ∀ b ∈ fp1, b < e) (f2 : ∀ b ∈ fp2, b < e) :
    DrG prog w A z S e [z, TO, i1, i2] n (fun i x h => ∃ T x1 x2, x = .ref T ∧ P1 i x1 ∧ P2 i x2 ∧ h.get? T = some { cls := .type "tuple", data := .seq #[x1, x2] } ∧ S < T) (ZipSt St1 St2 z TI TO i1 i2 S e) where
  live := fun i h ⟨_, _, _, q⟩ => by
    rcases q with ⟨q, _⟩ | ⟨T, f, oT, q, _⟩
    · exact ⟨_, q⟩
    · exact ⟨_, q⟩
  mem := by simp
  lo := fun b hb => by
    simp only [List.mem_cons, List.not_mem_nil, or_false] at hb
    rcases hb with rfl | rfl | rfl | rfl <;> assumption
  eS := eS
  frame := fun i h h' ⟨hTI, s1, s2, q⟩ k => by
    have kl : ∀ b o, b < e → h.get? b = some o → h'.get? b = some o := fun b o lb g => k b o (Nat.ne_of_lt (Nat.lt_trans lb eS)) (Nat.ne_of_lt lb) g
    refine ⟨kl _ _ lI hTI, D1.frame _ _ _ s1 fun b hb o g => kl b o (f1 b hb) g, D2.frame _ _ _ s2 fun b hb o g => kl b o (f2 b hb) g, ?_⟩
    rcases q with ⟨q, a1, a2, hTO⟩ | ⟨T, f, oT, q, y, r1, r2, r3, r4, r5, r6⟩
    · exact .inl ⟨kl _ _ lz q, a1, a2, kl _ _ lO hTO⟩
    · exact .inr ⟨T, f, oT, kl _ _ lz q, k T oT r5 r6 y, r1, r2, r3, r4, r5, r6⟩
  pk := fun i x h h' ⟨T, x1, x2, ex, p1, p2, hT, l⟩ k => by
    refine ⟨T, x1, x2, ex, p1, p2, k T _ (Nat.ne_of_gt l) (Nat.ne_of_gt (Nat.lt_trans eS l)) (fun z => ?_) hT, l⟩
    simp only [List.mem_cons, List.not_mem_nil, or_false] at z
    rcases z with rfl | rfl | rfl | rfl
    · exact Nat.lt_asymm (Nat.lt_trans eS l) lz
    · exact Nat.lt_asymm (Nat.lt_trans eS l) lO
    · exact Nat.lt_asymm (Nat.lt_trans eS l) l1
    · exact Nat.lt_asymm (Nat.lt_trans eS l) l2
  item := fun i s Q E hi ⟨hTI, s1, s2, q⟩ lS hQ => by
    have lt : ∀ {c}, c < e → s.heap.objs.size ≠ c := fun lc => Nat.ne_of_gt (Nat.lt_trans lc (Nat.lt_trans eS lS))
    have nm : ∀ {c : Addr}, c ∉ [z, TO, i1, i2] → c ≠ z ∧ c ≠ TO ∧ c ≠ i1 ∧ c ≠ i2 := fun h => ⟨fun q => h (by simp [q]), fun q => h (by simp [q]), fun q => h (by simp [q]), fun q => h (by simp [q])⟩
    rcases q with ⟨q, a1, a2, hTO⟩ | ⟨T, f, oT, q, y, r1, r2, r3, r4, r5, r6⟩
    · refine nextOf_zip ⟨_, q, rfl⟩ (zipD2_next_item Sp D1 D2 q hTI hTO s1 s2 hi hi fun x1 x2 h' tk p1 p2 hz' hTO' s1' s2' hT' hsz hk => ?_)
      refine hQ s.heap.objs.size h' tk ⟨_, x1, x2, rfl, p1, p2, hT', lS⟩ ⟨hk _ _ Sp.TIz Sp.TITO Sp.TIi1 Sp.TIi2 hTI, s1', s2', .inr ⟨_, false, _, hz', hT', lt lz, lt lO, lt l1, lt l2, Nat.ne_of_gt lS, Nat.ne_of_gt (Nat.lt_trans eS lS)⟩⟩ (fun b o hb g => ?_) (Nat.le_refl _) (by rw [hsz]; exact Nat.lt_succ_self _)
      obtain ⟨b1, b2, b3, b4⟩ := nm hb
      exact hk b o b1 b2 b3 b4 g
    · refine nextOf_zip ⟨_, q, rfl⟩ (gz_zip_held Sp D1 D2 q y hTI s1 s2 hi hi fun x1 x2 h' tk p1 p2 hz' s1' s2' hT' hsz hk => ?_)
      refine hQ s.heap.objs.size h' tk ⟨_, x1, x2, rfl, p1, p2, hT', lS⟩ ⟨hk _ _ Sp.TIz Sp.TIi1 Sp.TIi2 hTI, s1', s2', .inr ⟨T, true, oT, hz', hk _ _ r1 r3 r4 y, r1, r2, r3, r4, r5, r6⟩⟩ (fun b o hb g => ?_) (Nat.le_refl _) (by rw [hsz]; exact Nat.lt_succ_self _)
      obtain ⟨b1, b2, b3, b4⟩ := nm hb
      exact hk b o b1 b3 b4 g
  done := fun s Q E ⟨hTI, s1, s2, q⟩ hE => by
    have nm : ∀ {c : Addr}, c ∉ [z, TO, i1, i2] → c ≠ z ∧ c ≠ TO ∧ c ≠ i1 ∧ c ≠ i2 := fun h => ⟨fun q => h (by simp [q]), fun q => h (by simp [q]), fun q => h (by simp [q]), fun q => h (by simp [q])⟩
    rcases q with ⟨q, a1, a2, hTO⟩ | ⟨T, f, oT, q, y, r1, r2, r3, r4, r5, r6⟩
    · refine nextOf_zip ⟨_, q, rfl⟩ (zipD2_next_end Sp D1 D2 q hTI hTO s1 s2 (Nat.le_refl _) (Nat.le_refl _) (.inl rfl) fun h' tk x hk he => hE h' tk x (fun b o hb g => ?_) he)
      obtain ⟨b1, b2, b3, b4⟩ := nm hb
      exact hk b o b1 b2 b3 b4 g
    · refine nextOf_zip ⟨_, q, rfl⟩ (gz_zip_held_end Sp D1 D2 q y hTI s1 s2 rfl fun h' tk x hk he => hE h' tk x (fun b o hb g => ?_) he)
      obtain ⟨b1, b2, b3, b4⟩ := nm hb
      exact hk b o b1 b3 b4 g
set_option maxHeartbeats 1000000 in
theorem gz_meets_enum {z TI TO : Addr} :
    Meets (Builtin.«enumerate.__new__» ⟨[.type "enumerate", .ref z], []⟩) (fun _ R s => IsZip s.heap z TI TO .none ∧
      R (.ok (.ret (.ref s.heap.objs.size))) { s with heap := s.heap.push { cls := .type "enumerate", data := .fields #[.none, .bool false, .ref z, rawInt 0, .none, .none] } }) :=
  .of_wp fun prog w A R s h => by
    obtain ⟨hp, g, d, tk, os⟩ := s; obtain ⟨h1, h⟩ := h
    have hsub := sub_enumerate
    have q1 : ∀ {A' : Around} {E : Value → Shared → Prop} {Q : Value → Shared → Prop}, Q (.ref z) ⟨hp, g, d, tk, os⟩ → wpAny (model prog w) A' (pyIter (.ref z)) Q E ⟨hp, g, d, tk, os⟩ :=
      fun q => wpAny_pyIter_zip (s := ⟨hp, g, d, tk, os⟩) h1 q
    wp_walk using q1
    refine wpAny_stack_any fun st => wpAny_pure ?_
    split
    · rename_i c _ _ _ _ _
      cases (c == Value.type "enumerate")
      · wp_walk using q1
        exact ⟨_, rfl, h⟩
      · wp_walk using q1
        exact ⟨_, rfl, h⟩
    · wp_walk using q1
      exact ⟨_, rfl, h⟩
theorem gz_enum {z TI TO : Addr} {Q : Value → Shared → Prop} (hz : IsZip s.heap z TI TO .none)
    (h : ∀ h', IsEnum h' s.heap.objs.size z 0 .none → h'.objs.size = s.heap.objs.size + 1 → (∀ b o, s.heap.get? b = some o → h'.get? b = some o) → Q (.ref s.heap.objs.size) { s with heap := h' }) :
    wpAny (model prog w) A (call (.type "enumerate") [.ref z]) Q E s := by
  refine callType_new F.called_enumerate (by decide) (F.typeCall_enumerate_1 _) (F.newCall_enumerate_1 _) (fun obj => F.args_object_init_2 obj _) F.entry_enumerate_new
    gz_meets_enum ⟨hz, ?_⟩
  have he : IsEnum (s.heap.push { cls := .type "enumerate", data := .fields #[.none, .bool false, .ref z, rawInt 0, .none, .none] }) s.heap.objs.size z 0 .none := Heap.get?_push_size _ rfl
  show _ ∧ _
  exact ⟨⟨_, he, rfl⟩, h _ he (Heap.size_push ..) fun b o x => Heap.get?_push_of_some _ x⟩
end
end PySem

set_option Elab.async false
set_option linter.all false
set_option maxRecDepth 100000
set_option maxHeartbeats 4000000
namespace GX
open PySem PySem.Spec PyProof.Rows L2
/-- things put at their addresses -/
def putA (H : Hp) : List (Addr × HO) → Hp
  | [] => H
  | p :: l => putA (upd H p.1 p.2) l
theorem putA_off {b : Addr} : ∀ (l : List (Addr × HO)) (H : Hp), (∀ p ∈ l, p.1 < b ∨ b < p.1) → putA H l b = H b
  | [], _, _ => rfl
  | p :: l, H, h => by
    show putA (upd H p.1 p.2) l b = H b
    rw [putA_off l _ fun q hq => h q (List.mem_cons_of_mem _ hq), upd_ne]
    rcases h p List.mem_cons_self with z | z
    · exact Nat.ne_of_gt z
    · exact Nat.ne_of_lt z
theorem putA_on : ∀ (l : List (Addr × HO)) (H : Hp), l.Pairwise (fun p q => p.1 < q.1) → ∀ p ∈ l, putA H l p.1 = some p.2
  | [], _, _, p, hp => by cases hp
  | q :: l, H, hw, p, hp => by
    obtain ⟨h1, h2⟩ := List.pairwise_cons.mp hw
    show putA (upd H q.1 q.2) l p.1 = _
    rcases List.mem_cons.mp hp with e | hp
    · rw [e, putA_off l _ fun r hr => .inr (h1 r hr), upd_same]
    · exact putA_on l _ h2 p hp
def asgZ : Nat → List (Addr × Addr) → List V → List V → List (Addr × HO)
  | j, q :: qs, x :: xs, y :: ys => (q.1, .tup [x, y]) :: (q.2, .tup [.int (j : Nat), .ref q.1]) :: asgZ (j + 1) qs xs ys
  | _, _, _, _ => []
theorem asgZ_mem {p : Addr × HO} : ∀ {qs : List (Addr × Addr)} {xs ys : List V} {j : Nat}, p ∈ asgZ j qs xs ys → ∃ (i : Nat) (q : Addr × Addr) (x y : V), qs[i]? = some q ∧ xs[i]? = some x ∧ ys[i]? = some y ∧ (p = (q.1, .tup [x, y]) ∨ p = (q.2, .tup [.int ((j + i : Nat) : Int), .ref q.1]))
  | [], _, _, _, h => by cases h
  | _ :: _, [], _, _, h => by cases h
  | _ :: _, _ :: _, [], _, h => by cases h
  | q :: qs, x :: xs, y :: ys, j, h => by
    have h : p ∈ (q.1, HO.tup [x, y]) :: (q.2, HO.tup [.int (j : Nat), .ref q.1]) :: asgZ (j + 1) qs xs ys := h
    rcases List.mem_cons.mp h with e | h
    · exact ⟨0, q, x, y, rfl, rfl, rfl, .inl e⟩
    · rcases List.mem_cons.mp h with e | h
      · exact ⟨0, q, x, y, rfl, rfl, rfl, .inr e⟩
      · obtain ⟨i, q', x', y', h1, h2, h3, h4⟩ := asgZ_mem h
        refine ⟨i + 1, q', x', y', by simpa using h1, by simpa using h2, by simpa using h3, ?_⟩
        rw [show j + (i + 1) = j + 1 + i by omega]
        exact h4
theorem asgZ_has : ∀ {qs : List (Addr × Addr)} {xs ys : List V} {j i : Nat} {q : Addr × Addr} {x y : V}, qs[i]? = some q → xs[i]? = some x → ys[i]? = some y → (q.1, .tup [x, y]) ∈ asgZ j qs xs ys ∧ (q.2, .tup [.int ((j + i : Nat) : Int), .ref q.1]) ∈ asgZ j qs xs ys
  | [], _, _, _, i, _, _, _, h, _, _ => by simp at h
  | _ :: _, [], _, _, i, _, _, _, _, h, _ => by simp at h
  | _ :: _, _ :: _, [], _, i, _, _, _, _, _, h => by simp at h
  | q0 :: qs, x0 :: xs, y0 :: ys, j, 0, q, x, y, h1, h2, h3 => by
    obtain rfl : q0 = q := by simpa using h1
    obtain rfl : x0 = x := by simpa using h2
    obtain rfl : y0 = y := by simpa using h3
    exact ⟨List.mem_cons_self, List.mem_cons_of_mem _ List.mem_cons_self⟩
  | q0 :: qs, x0 :: xs, y0 :: ys, j, i + 1, q, x, y, h1, h2, h3 => by
    obtain ⟨a, b⟩ := asgZ_has (j := j + 1) (i := i) (by simpa using h1 : qs[i]? = some q) (by simpa using h2 : xs[i]? = some x) (by simpa using h3 : ys[i]? = some y)
    rw [show j + (i + 1) = j + 1 + i by omega]
    exact ⟨List.mem_cons_of_mem _ (List.mem_cons_of_mem _ a), List.mem_cons_of_mem _ (List.mem_cons_of_mem _ b)⟩
theorem asgZ_ord {lo : Addr} : ∀ {qs : List (Addr × Addr)} {xs ys : List V} {j : Nat}, qs.Pairwise (fun p q => p.2 < q.1) → (∀ p ∈ qs, lo < p.1 ∧ p.1 < p.2) → (asgZ j qs xs ys).Pairwise (fun p q => p.1 < q.1) ∧ ∀ p ∈ asgZ j qs xs ys, lo < p.1
  | [], _, _, _, _, _ => ⟨.nil, fun p h => by cases h⟩
  | _ :: _, [], _, _, _, _ => ⟨.nil, fun p h => by cases h⟩
  | _ :: _, _ :: _, [], _, _, _ => ⟨.nil, fun p h => by cases h⟩
  | q :: qs, x :: xs, y :: ys, j, hw, hl => by
    obtain ⟨h1, h2⟩ := List.pairwise_cons.mp hw
    obtain ⟨l1, l2⟩ := hl q List.mem_cons_self
    obtain ⟨i1, i2⟩ := asgZ_ord (lo := q.2) (xs := xs) (ys := ys) (j := j + 1) h2 fun p hp => ⟨h1 p hp, (hl p (List.mem_cons_of_mem _ hp)).2⟩
    refine ⟨List.pairwise_cons.mpr ⟨fun p hp => ?_, List.pairwise_cons.mpr ⟨fun p hp => i2 p hp, i1⟩⟩, fun p hp => ?_⟩
    · rcases List.mem_cons.mp hp with e | hp
      · rw [e]; exact l2
      · exact Nat.lt_trans l2 (i2 p hp)
    · rcases List.mem_cons.mp hp with e | hp
      · rw [e]; exact l1
      · rcases List.mem_cons.mp hp with e | hp
        · rw [e]; exact Nat.lt_trans l1 l2
        · exact Nat.lt_trans (Nat.lt_trans l1 l2) (i2 p hp)
/-- ts hold (0, (x0, y0)), (1, (x1, y1)) .. -/
def EnumZ (H : Hp) (ts : List (Addr × Addr)) (xs ys : List V) : Prop := ts.length = xs.length ∧ ∀ j q, ts[j]? = some q → ∃ x y, xs[j]? = some x ∧ ys[j]? = some y ∧ H q.2 = some (.tup [.int (j : Nat), .ref q.1]) ∧ H q.1 = some (.tup [x, y])
theorem refs_valsZ : ∀ as : List (Addr × Addr), Vals (as.map fun q => V.ref q.2) (as.map fun q => Value.ref q.2)
  | [] => .nil
  | _ :: as => .cons rfl (refs_valsZ as)
section
variable {X : Cx}
theorem enumz_laid {pins : List (Addr × Obj)} {σ : L2.St} {H : Hp} {s : Shared} {h' : Heap} {tk : Nat} {xs ys : List V} {its jts : List Value} {acc : Array Value} {c : Nat} {qs : List (Addr × Addr)} {S : Addr} (I : Inv X pins σ H s) (l0 : s.heap.objs.size ≤ S) (hz : xs.length ≤ sizeLine) (rv : Vals xs its) (rw2 : Vals ys jts) (hxy : xs.length = ys.length)
    (hk : ∀ b o, s.heap.get? b = some o → h'.get? b = some o) (sh : h'.get? S = some { cls := .type "list", dict := none, data := .seq acc c, slots := #[] }) (hl : qs.length = its.toArray.size)
    (g : GzG (fun i x h => ∃ T x1 x2, x = .ref T ∧ its.toArray[i]? = some x1 ∧ jts.toArray[i]? = some x2 ∧ h.get? T = some { cls := .type "tuple", data := .seq #[x1, x2] } ∧ S < T) S h' qs) (ac : acc.toList = qs.map fun p => Value.ref p.2) :
    ∃ H' : Hp, Same H H' ∧ H S = none ∧ H' S = some (.lst (qs.map fun q => V.ref q.2)) ∧ EnumZ H' qs xs ys ∧ Inv X pins σ H' { s with heap := h', toks := tk } := by
  have lx : qs.length = xs.length := by rw [hl, rv.length]; simp
  obtain ⟨o1, o2⟩ := asgZ_ord (lo := S) (xs := xs) (ys := ys) (j := 0) g.ord g.above
  have newS : H S = none := I.hok.fresh l0
  have new : ∀ b, S < b → H b = none := fun b hb => I.hok.fresh (Nat.le_trans l0 (Nat.le_of_lt hb))
  have on := putA_on (asgZ 0 qs xs ys) (upd H S (.lst (qs.map fun q => V.ref q.2))) o1
  have off : ∀ b, b < S → putA (upd H S (.lst (qs.map fun q => V.ref q.2))) (asgZ 0 qs xs ys) b = H b := fun b hb => by
    rw [putA_off _ _ fun p hp => .inr (Nat.lt_trans hb (o2 p hp)), upd_ne (Nat.ne_of_lt hb)]
  have atS : putA (upd H S (.lst (qs.map fun q => V.ref q.2))) (asgZ 0 qs xs ys) S = some (.lst (qs.map fun q => V.ref q.2)) := by
    rw [putA_off _ _ fun p hp => .inr (o2 p hp), upd_same]
  have only : ∀ b, S < b → (∀ p ∈ asgZ 0 qs xs ys, p.1 ≠ b) → putA (upd H S (.lst (qs.map fun q => V.ref q.2))) (asgZ 0 qs xs ys) b = none := fun b hb hn => by
    rw [putA_off _ _ fun p hp => Nat.lt_or_gt_of_ne (hn p hp), upd_ne (Nat.ne_of_gt hb)]
    exact new b hb
  generalize putA (upd H S (.lst (qs.map fun q => V.ref q.2))) (asgZ 0 qs xs ys) = H' at on off atS only
  have low : ∀ b u, H b = some u → b < S := fun b u q => by
    rcases Nat.lt_trichotomy b S with z | z | z
    · exact z
    · rw [z, newS] at q; cases q
    · rw [new b z] at q; cases q
  have kp : ∀ b u, H b = some u → H' b = some u := fun b u q => by rw [off b (low b u q)]; exact q
  refine ⟨H', kp, newS, atS, ⟨lx, fun j q hq => ?_⟩, ?_⟩
  · have hj := (List.getElem?_eq_some_iff.mp hq).1
    obtain ⟨x, hx⟩ : ∃ x, xs[j]? = some x := ⟨_, List.getElem?_eq_getElem (by omega)⟩
    obtain ⟨y, hy⟩ : ∃ y, ys[j]? = some y := ⟨_, List.getElem?_eq_getElem (by omega)⟩
    obtain ⟨m1, m2⟩ := asgZ_has (j := 0) hq hx hy
    rw [Nat.zero_add] at m2
    exact ⟨x, y, hx, hy, on _ m2, on _ m1⟩
  refine I.call' (ch := []) rfl ⟨fun b o q _ _ _ => hk b o q, fun b o q _ _ _ => ⟨o.slots, hk b o q⟩, fun b o q n _ => ?_, fun b o q _ => ⟨o, hk b o q⟩, fun b ys q => kp b _ q, fun b o u q => kp b _ q, fun b ps q => ⟨#[], by rw [kp b _ q]; simp⟩⟩ (fun b u q => ?_) I.bare fun b z => by simp at z
  · rw [off b (Nat.lt_of_lt_of_le (Heap.lt_size q) l0)]
    exact n
  · rcases Nat.lt_trichotomy b S with hb | hb | hb
    · rw [off b hb] at q
      exact (I.hok b u q).stay (fun d v _ y => hk d v y) (fun d y => kp d _ y) fun d ys y => kp d _ y
    · subst hb
      rw [atS] at q
      cases q
      exact ⟨by rw [List.length_map]; omega, acc.toList, c, by rw [ac]; exact refs_valsZ qs, by rw [Array.toArray_toList]; exact sh⟩
    · by_cases hm : ∃ p ∈ asgZ 0 qs xs ys, p.1 = b
      · obtain ⟨p, hp, rfl⟩ := hm
        have := on p hp
        rw [q] at this
        obtain rfl : u = p.2 := Option.some.inj this
        obtain ⟨i, qq, x, y, h1, h2, h3, h4⟩ := asgZ_mem hp
        obtain ⟨t, ⟨T, x1, x2, eT, e1, e2, e3, _⟩, e4⟩ := g.pairs i qq h1
        cases eT
        rcases h4 with rfl | rfl
        · obtain ⟨u1, v1, w1⟩ := rv.get h2
          obtain ⟨u2, v2, w2⟩ := rw2.get h3
          have e1 : its[i]? = some x1 := by simpa using e1
          have e2 : jts[i]? = some x2 := by simpa using e2
          rw [v1] at e1
          rw [v2] at e2
          cases e1
          cases e2
          exact ⟨by show 2 ≤ sizeLine; decide, [_, _], .cons w1 (.cons w2 .nil), ⟨_, e3, rfl, _, rfl⟩⟩
        · refine ⟨by show 2 ≤ sizeLine; decide, [.int i t, .ref qq.1], .cons ⟨t, by simp⟩ (.cons rfl .nil), ⟨_, e4, rfl, _, rfl⟩⟩
      · rw [only b hb fun p hp e => hm ⟨p, hp, e⟩] at q
        cases q
end
end GX

set_option Elab.async false
set_option linter.all false
set_option maxRecDepth 100000
set_option maxHeartbeats 4000000
namespace GX
open PySem PySem.Spec PyProof.Rows L2
theorem znm (x y c : Nat) (h1 : c ≠ x) (h2 : c ≠ y) : c ∉ [x, y] := by
  simp; exact ⟨h1, h2⟩
theorem zne (x y : Nat) (h : x < y ∨ y < x) : x ≠ y := by omega
theorem zsep (m a b : Nat) (la : a < m) (lb : b < m) : ZipSep2 (m + 4) (m + 2) (m + 3) m (m + 1) [m, a] [m + 1, b] where
  TIz := zne (m + 2) (m + 4) (by omega)
  TOz := zne (m + 3) (m + 4) (by omega)
  TITO := zne (m + 2) (m + 3) (by omega)
  TIi1 := zne (m + 2) m (by omega)
  mem1 := by simp
  zf1 := znm m a (m + 4) (zne _ _ (by omega)) (zne _ _ (by omega))
  Tf1 := znm m a (m + 3) (zne _ _ (by omega)) (zne _ _ (by omega))
  TIi2 := zne (m + 2) (m + 1) (by omega)
  mem2 := by simp
  zf2 := znm (m + 1) b (m + 4) (zne _ _ (by omega)) (zne _ _ (by omega))
  Tf2 := znm (m + 1) b (m + 3) (zne _ _ (by omega)) (zne _ _ (by omega))
  sep1_2 := znm (m + 1) b m (zne _ _ (by omega)) (zne _ _ (by omega))
  sep2_1 := znm m a (m + 1) (zne _ _ (by omega)) (zne _ _ (by omega))
theorem zlt4 (m k : Nat) (q : k = m + 5) : m + 4 < k := by omega
theorem zlt3 (m k : Nat) (q : k = m + 5) : m + 3 < k := by omega
theorem zlt2 (m k : Nat) (q : k = m + 5) : m + 2 < k := by omega
theorem zlt1 (m k : Nat) (q : k = m + 5) : m + 1 < k := by omega
theorem zlt0 (m k : Nat) (q : k = m + 5) : m < k := by omega
theorem zltE (m k c : Nat) (q : k = m + 5) (h : c < m) : c < k := by omega
theorem zltA (m k a c : Nat) (q : k = m + 5) (la : a < m) (h : c ∈ [m, a]) : c < k := by
  simp at h; omega
theorem zltB (m k a c : Nat) (q : k = m + 5) (la : a < m) (h : c ∈ [m + 1, a]) : c < k := by
  simp at h; omega
theorem zno (m c : Nat) (h : c < m) : c ∉ [m + 4, m + 3, m, m + 1] := by
  simp; omega
theorem boot_zip0 : bootBuiltins "zip" = some (.type "zip") := PyProof.Rows.boot_zip
section
variable {X : Cx}
/-- what a walk over a list or a tuple needs -/
theorem gz_src {pins : List (Addr × Obj)} {σ : L2.St} {H : Hp} {s : Shared} {a : Addr} {xs : List V} (I : Inv X pins σ H s) (h : SqL X.K H a xs ∨ SqT X.K H a xs) :
    ∃ its : List Value, Vals xs its ∧ xs.length ≤ sizeLine ∧ a < s.heap.objs.size ∧ ((s.heap.IsList a its.toArray) ∨ (s.heap.IsTuple a its.toArray)) := by
  rcases h with h | h
  · obtain ⟨its, rv, pl, hz⟩ := I.list h
    exact ⟨its, rv, hz, pl.lt, .inl pl.isList⟩
  · obtain ⟨its, rv, pl, hz⟩ := I.tuple h
    exact ⟨its, rv, hz, pl.lt, .inr pl⟩
structure Src (prog : Program) (w : World) (hh : Prop) (a : Addr) (items : Array Value) (h : Heap) : Prop where
  go : ∃ (o : Obj) (Hb : Heap → Prop), Begins (.ref a) o Hb ∧ Hb h ∧ ∀ (A : Around) (it : Addr), A.handled = none → a ≠ it → ∃ St : Nat → Heap → Prop, Draws prog w A it [it, a] items.size (fun i v => items[i]? = some v) St ∧ ∀ h', (∀ b o', h.get? b = some o' → h'.get? b = some o') → h'.get? it = some o → St 0 h'
theorem src_of {prog : Program} {w : World} {a : Addr} {items : Array Value} {h : Heap} (q : (h.IsList a items) ∨ (h.IsTuple a items)) : Src prog w True a items h := by
  rcases q with q | q
  · exact ⟨⟨_, _, begins_list a items, q, fun A it hh ne => ⟨_, Draws.list hh it a ne items, fun h' k e => ⟨⟨_, e, rfl, rfl⟩, q.at fun o y => k a o y⟩⟩⟩⟩
  · exact ⟨⟨_, _, begins_tuple a items, q, fun A it hh ne => ⟨_, Draws.tuple hh it a ne items, fun h' k e => ⟨⟨_, e, rfl, rfl⟩, q.at fun o y => k a o y⟩⟩⟩⟩
def rEnumZL (K : PySem.W.Frag) : List V → Hp → VK → Prop := fun vs H Q => ∃ (a b : Addr) (xs ys : List V), vs = [.ref a, .ref b] ∧ (SqL K H a xs ∨ SqT K H a xs) ∧ (SqL K H b ys ∨ SqT K H b ys) ∧ xs.length = ys.length ∧
  ∀ (H' : Hp) (p : Addr) (ts : List (Addr × Addr)), Same H H' → H p = none → H' p = some (.lst (ts.map fun q => V.ref q.2)) → EnumZ H' ts xs ys → Q (.ref p) H'
def tListEnumZ (K : PySem.W.Frag) (ta : TA) : TE := fun σ H Q => ta σ H fun vs H1 => rEnumZL K vs H1 Q
variable {e1 e2 : Expr} {ta : TA} {p p2 p3 pos pos2 pos3 : Pos}
theorem pe_listEnumZ (hc : X.calm = true) (he : PA X [e1, e2] ta) (hg : Gl X "list") (hm : X.mg "list" = none) (hv : bootBuiltins "list" = some (.type "list")) (hg2 : Gl X "enumerate") (hm2 : X.mg "enumerate" = none) (hg3 : Gl X "zip") (hm3 : X.mg "zip" = none)
    (hs : starEach [.Call (.Name "enumerate" p2) [.Call (.Name "zip" p3) [e1, e2] [] pos3] [] pos2] X.env = [(false, eval (.Call (.Name "enumerate" p2) [.Call (.Name "zip" p3) [e1, e2] [] pos3] [] pos2) X.env)] := by rfl)
    (hs2 : starEach [.Call (.Name "zip" p3) [e1, e2] [] pos3] X.env = [(false, eval (.Call (.Name "zip" p3) [e1, e2] [] pos3) X.env)] := by rfl)
    (hs3 : starEach [e1, e2] X.env = (false, eval e1 X.env) :: starEach [e2] X.env := by rfl) (hpl : (backTo pos3 (starEach [e2] X.env)).any (·.1) = false := by rfl) :
    PE X (.Call (.Name "list" p) [.Call (.Name "enumerate" p2) [.Call (.Name "zip" p3) [e1, e2] [] pos3] [] pos2] [] pos) (tListEnumZ X.K ta) := by
  refine ⟨fun pins s σ H Q I hq => ?_⟩
  refine wpAny_Call_Name_kw (ld_blt I hg hm hv ?_)
  refine PyProof.Rows.callWith_type1 ?_ hs rfl
  rw [hs]
  show wpAny _ _ (spliced ((false, eval (.Call (.Name "enumerate" p2) [.Call (.Name "zip" p3) [e1, e2] [] pos3] [] pos2) X.env) :: backTo pos [])) _ _ s
  refine Calls.spliced_cons ?_
  refine Call_ (ld_blt I hg2 hm2 boot_enumerate ?_)
  refine PyProof.Rows.callWith_type1 ?_ hs2 rfl
  rw [hs2]
  show wpAny _ _ (spliced ((false, eval (.Call (.Name "zip" p3) [e1, e2] [] pos3) X.env) :: backTo pos2 [])) _ _ s
  refine Calls.spliced_cons ?_
  refine Call_ (ld_blt I hg3 hm3 PyProof.Rows.boot_zip (PyProof.Rows.callWith_type1 (thn (he.run pos3 pins s σ H _ I hq) fun us s1 ⟨vs, H1, I1, r1, q1⟩ => ?_) hs3 hpl))
  obtain ⟨a, b, xs, ys, ex, sx, sy, hxy, q⟩ := q1
  subst ex
  cases r1 with
  | cons r rr =>
  cases rr with
  | cons r' rr =>
  cases rr
  cases r
  cases r'
  obtain ⟨its, rv, hz, la, srcA⟩ := gz_src I1 sx
  obtain ⟨jts, rw2, hz2, lb, srcB⟩ := gz_src I1 sy
  obtain ⟨oA, HA, BA, hA, DA⟩ := (src_of (prog := X.prog) (w := X.w) srcA).go
  obtain ⟨oB, HB, BB, hB, DB⟩ := (src_of (prog := X.prog) (w := X.w) srcB).go
  refine zip_begins2 BA BB hA hB fun h2 hz' hTI hTO g1 g2 hsz hk => ?_
  refine Calls.spliced_nil ?_
  refine gz_enum (s := { s1 with heap := h2 }) hz' fun h3 he' hsz3 hk3 => ?_
  refine Calls.spliced_nil ?_
  have hh := I1.ok.hd hc
  have z2 : h2.objs.size = s1.heap.objs.size + 5 := hsz
  have z3 : h3.objs.size = h2.objs.size + 1 := hsz3
  have k3 : ∀ b o, h2.get? b = some o → h3.get? b = some o := hk3
  obtain ⟨StA, dA, sA⟩ := DA X.A.in1.in1.in1.in1 s1.heap.objs.size hh (Nat.ne_of_lt la)
  obtain ⟨StB, dB, sB⟩ := DB X.A.in1.in1.in1.in1 (s1.heap.objs.size + 1) hh (Nat.ne_of_lt (Nat.lt_succ_of_lt lb))
  have en : jts.toArray.size = its.toArray.size := by
    have h1 := rv.length
    have h2 := rw2.length
    simp only [List.size_toArray]
    omega
  rw [en] at dB
  have Sp := zsep s1.heap.objs.size a b la lb
  have gS : s1.heap.objs.size + 5 < h3.objs.size := by rw [z3, z2]; exact Nat.lt_succ_self _
  have D := DrG.zip (S := h3.objs.size) (e := h2.objs.size) Sp dA dB (by rw [z3]; exact Nat.lt_succ_self _) (zlt4 _ _ z2) (zlt2 _ _ z2) (zlt3 _ _ z2) (zlt0 _ _ z2) (zlt1 _ _ z2) (fun c hc => zltA _ _ _ _ z2 la hc) (fun c hc => zltB _ _ _ _ z2 lb hc)
  have kk : ∀ c o, s1.heap.get? c = some o → h3.get? c = some o := fun c o e => k3 c o (hk c o e)
  refine gz_call (s := { s1 with heap := h3 }) (by simpa [← rv.length] using hz) D he' ⟨Heap.get?_push_of_some _ (k3 _ _ hTI), sA _ (fun c o e => Heap.get?_push_of_some _ (kk c o e)) (Heap.get?_push_of_some _ (k3 _ _ g1)), sB _ (fun c o e => Heap.get?_push_of_some _ (kk c o e)) (Heap.get?_push_of_some _ (k3 _ _ g2)), .inl ⟨Heap.get?_push_of_some _ (k3 _ _ hz'), _, _, Heap.get?_push_of_some _ (k3 _ _ hTO)⟩⟩ fun h4 tk acc c qs z => ?_
  have lS : s1.heap.objs.size ≤ h3.objs.size := Nat.le_of_lt (Nat.lt_of_le_of_lt (Nat.le_add_right _ 5) gS)
  obtain ⟨H', k1, k2, k4, k5, J⟩ := enumz_laid (tk := tk) (S := h3.objs.size) I1 lS hz rv rw2 hxy (fun c o e => z.kp c o (Nat.ne_of_lt (Nat.lt_of_lt_of_le (Heap.lt_size e) lS)) (Nat.ne_of_lt (zltE _ _ _ z2 (Heap.lt_size e))) (zno _ _ (Heap.lt_size e)) (kk c o e)) z.sh z.ln z.gr z.ac
  exact ⟨.ref h3.objs.size, H', J, rfl, q H' _ qs k1 k2 k4 k5⟩
end
end GX

set_option Elab.async false
set_option linter.all false
set_option maxRecDepth 100000
set_option maxHeartbeats 4000000
namespace GX
open PySem PySem.Spec PyProof.Rows L2
section
variable {X : Cx}
/-- max(t), t a tuple of whole numbers: one of them -/
def rMaxT (K : PySem.W.Frag) : List V → Hp → VK → Prop := fun vs H Q => ∃ (a : Addr) (ns : List Int), vs = [V.ref a] ∧ SqT K H a (ns.map V.int) ∧ 0 < ns.length ∧ ∀ m, m ∈ ns → Q (.int m) H
theorem ints_read {h : Heap} : ∀ {ns : List Int} {its : List Value}, Vals (ns.map V.int) its → ∃ as, ReadsAll h its (ns.map PyData.int) as
  | [], _, .nil => ⟨_, .nil⟩
  | n :: ns, _, .cons r t => by
    obtain ⟨k, rfl⟩ := r
    obtain ⟨as, h⟩ := ints_read t
    exact ⟨_, .cons (.int n k) h⟩
theorem cr_maxT (hc : X.calm = true) (hu : X.A.units + 64 < cLine) : CallR X (.builtin "max") (rMaxT X.K) := by
  intro pins s σ H vs us Q I r h
  obtain ⟨a, ns, rfl, hs, hne, q⟩ := h
  obtain ⟨its, rv, p, hz⟩ := I.tuple hs
  rw [Vals.ref1 r]
  cases ns with
  | nil => cases hne
  | cons n ns =>
    obtain ⟨as, hr⟩ := ints_read (h := s.heap) rv
    refine PySem.W.max_tuple_data (x := .int n) (xs := ns.map PyData.int) (I.ok.hd hc) (show s.heap.IsTuple a its.toArray from p) hr ⟨fun x hx y hy => ?_, fun x hx => ?_⟩ ?_ fun i v h' tk bs hv _ hk => ?_
    · have hx : x ∈ (n :: ns).map PyData.int := hx
      have hy : y ∈ (n :: ns).map PyData.int := hy
      obtain ⟨a1, _, rfl⟩ := List.mem_map.mp hx
      obtain ⟨a2, _, rfl⟩ := List.mem_map.mp hy
      rfl
    · have hx : x ∈ (n :: ns).map PyData.int := hx
      obtain ⟨a1, _, rfl⟩ := List.mem_map.mp hx
      exact fun z => nomatch z
    · have e : ∀ l : List Int, PyData.depthAll (l.map PyData.int) = 0 := fun l => by
        induction l with
        | nil => rfl
        | cons i r ih => show max 0 (PyData.depthAll (r.map PyData.int)) = 0; rw [ih]; rfl
      have e1 : PyData.depthAll (PyData.int n :: ns.map PyData.int) = 0 := e (n :: ns)
      rw [e1]
      omega
    · have hv' : its[i]? = some v := by simpa using hv
      obtain ⟨m, hm, hr⟩ : ∃ m, (n :: ns)[i]? = some m ∧ RelV (.int m) v := by
        have hl := rv.length
        rw [List.length_map] at hl
        have hi : i < (n :: ns).length := by rw [hl]; exact (List.getElem?_eq_some_iff.mp hv').1
        obtain ⟨u, h1, h2⟩ := rv.get (i := i) (x := .int (n :: ns)[i]) (by rw [List.getElem?_map, List.getElem?_eq_getElem hi]; rfl)
        rw [hv'] at h1
        cases h1
        exact ⟨_, List.getElem?_eq_getElem hi, h2⟩
      exact ⟨.int m, H, I.kept hk, hr, q m (List.mem_of_getElem? hm)⟩
end
end GX

set_option Elab.async false
set_option linter.all false
set_option maxRecDepth 100000
set_option maxHeartbeats 4000000
namespace GX
open PySem PySem.Spec PyProof.Rows L2
section
variable {X : Cx}
/-- max(l, default=d), l a list of whole numbers -/
def rMaxDef (K : PySem.W.Frag) : List V → List V → Hp → VK → Prop := fun xs zs H Q => ∃ (a : Addr) (ns : List Int) (d : V), xs = [V.ref a] ∧ zs = [d] ∧ SqL K H a (ns.map V.int) ∧ (ns = [] → Q d H) ∧ ∀ n ms, ns = n :: ms → Q (.int (ms.foldl max n)) H
def rMinDef (K : PySem.W.Frag) : List V → List V → Hp → VK → Prop := fun xs zs H Q => ∃ (a : Addr) (ns : List Int) (d : V), xs = [V.ref a] ∧ zs = [d] ∧ SqL K H a (ns.map V.int) ∧ (ns = [] → Q d H) ∧ ∀ n ms, ns = n :: ms → Q (.int (ms.foldl min n)) H
theorem ints_alike (ns : List Int) : PySem.W.AlikeAll (ns.map PyData.int) := ⟨fun x hx y hy => by
    obtain ⟨a1, _, rfl⟩ := List.mem_map.mp hx
    obtain ⟨a2, _, rfl⟩ := List.mem_map.mp hy
    rfl, fun x hx => by
    obtain ⟨a1, _, rfl⟩ := List.mem_map.mp hx
    exact fun z => nomatch z⟩
theorem ints_flat (l : List Int) : PyData.depthAll (l.map PyData.int) = 0 := by
  induction l with
  | nil => rfl
  | cons i r ih => show max 0 (PyData.depthAll (r.map PyData.int)) = 0; rw [ih]; rfl
theorem cr_maxDef (hc : X.calm = true) (hu : X.A.units + 64 < cLine) : CallRK X (.builtin "max") [Str.ofString "default"] (rMaxDef X.K) := by
  intro pins s σ H vs zs us ws Q I r rz h
  obtain ⟨a, ns, d, rfl, rfl, hs, h0, h1⟩ := h
  obtain ⟨its, rv, p, hz⟩ := I.list hs
  rw [Vals.ref1 r]
  obtain ⟨u1, rfl, rd⟩ := vals1 rz
  obtain ⟨as, hr⟩ := ints_read (h := s.heap) rv
  refine PySem.W.max_list_default (xs := ns.map PyData.int) (I.ok.hd hc) p.isList hr (ints_alike ns) (by rw [ints_flat]; omega) (fun e h' tk hk => ?_) fun y ys i v h' tk bs e hv hrd hk => ?_
  · have e : ns = [] := List.map_eq_nil_iff.mp e
    exact ⟨d, H, I.kept hk, rd, h0 e⟩
  · obtain ⟨n, ms, rfl⟩ : ∃ n ms, ns = n :: ms := by
      cases ns with
      | nil => cases e
      | cons n ms => exact ⟨n, ms, rfl⟩
    injection e with e1 e2
    rw [← e1, ← e2, PySem.W.maxD_ints] at hrd
    cases hrd
    exact ⟨.int (ms.foldl max n), H, I.kept hk, ⟨_, rfl⟩, h1 n ms rfl⟩
theorem cr_minDef (hc : X.calm = true) (hu : X.A.units + 64 < cLine) : CallRK X (.builtin "min") [Str.ofString "default"] (rMinDef X.K) := by
  intro pins s σ H vs zs us ws Q I r rz h
  obtain ⟨a, ns, d, rfl, rfl, hs, h0, h1⟩ := h
  obtain ⟨its, rv, p, hz⟩ := I.list hs
  rw [Vals.ref1 r]
  obtain ⟨u1, rfl, rd⟩ := vals1 rz
  obtain ⟨as, hr⟩ := ints_read (h := s.heap) rv
  refine PySem.W.min_list_default (xs := ns.map PyData.int) (I.ok.hd hc) p.isList hr (ints_alike ns) (by rw [ints_flat]; omega) (fun e h' tk hk => ?_) fun y ys i v h' tk bs e hv hrd hk => ?_
  · have e : ns = [] := List.map_eq_nil_iff.mp e
    exact ⟨d, H, I.kept hk, rd, h0 e⟩
  · obtain ⟨n, ms, rfl⟩ : ∃ n ms, ns = n :: ms := by
      cases ns with
      | nil => cases e
      | cons n ms => exact ⟨n, ms, rfl⟩
    injection e with e1 e2
    rw [← e1, ← e2, PySem.W.minD_ints] at hrd
    cases hrd
    exact ⟨.int (ms.foldl min n), H, I.kept hk, ⟨_, rfl⟩, h1 n ms rfl⟩
end
end GX

set_option Elab.async false
set_option linter.all false
set_option maxRecDepth 100000
set_option maxHeartbeats 4000000
namespace GX
open PySem PySem.Spec PyProof.Rows L2
theorem lt_pair {f1 f2 : Int} (d1 d2 : PyData) (h : f1 ≠ f2) : PySem.W.dataLt (.tuple [.int f1, d1]) (.tuple [.int f2, d2]) = decide (f1 < f2) := by
  have e : ∀ (f : Int) (d : PyData), PySem.W.keyToks (.tuple [.int f, d]) = [Sum.inl 1] ++ (Sum.inl f :: PySem.W.keyToksAll [d]) := fun f d => by
    rw [PySem.W.keyToks, PySem.W.toks_all_cons, PySem.W.keyToks]; rfl
  unfold PySem.W.dataLt
  rw [e, e, PySem.W.lex_pre, PySem.W.lex_atom (fun z => h (by injection z))]
  have := PySem.W.dataLt_int f1 f2
  unfold PySem.W.dataLt at this
  rw [PySem.W.keyToks, PySem.W.keyToks] at this
  exact this
section
variable {X : Cx}
/-- max([(f1, x1), (f2, x2)]) where f1 is not f2 -/
def rMaxPair (K : PySem.W.Frag) : List V → Hp → VK → Prop := fun vs H Q => ∃ (a T1 T2 : Addr) (f1 f2 : Int) (x1 x2 : V) (d1 d2 : PyData), vs = [V.ref a] ∧ SqL K H a [.ref T1, .ref T2] ∧ SqT K H T1 [.int f1, x1] ∧ SqT K H T2 [.int f2, x2] ∧ Dp K H x1 d1 ∧ Dp K H x2 d2 ∧
  PySem.W.alike d1 d2 = true ∧ PySem.W.alike d2 d1 = true ∧ PySem.W.alike d1 d1 = true ∧ PySem.W.alike d2 d2 = true ∧ PyData.depthAll [.tuple [.int f1, d1], .tuple [.int f2, d2]] < 60 ∧ f1 ≠ f2 ∧ Q (.ref (if f1 < f2 then T2 else T1)) H
theorem cr_maxPair (hc : X.calm = true) (hu : X.A.units + 64 < cLine) : CallR X (.builtin "max") (rMaxPair X.K) := by
  intro pins s σ H vs us Q I r h
  obtain ⟨a, T1, T2, f1, f2, x1, x2, d1, d2, rfl, hs, h1, h2, p1, p2, a12, a21, a11, a22, hd, hne, q⟩ := h
  obtain ⟨its, rv, p, hz⟩ := I.list hs
  rw [Vals.ref1 r]
  have dp : DpAll X.K H [.ref T1, .ref T2] [.tuple [.int f1, d1], .tuple [.int f2, d2]] := .cons (.tup h1 (.cons (.int f1) (.cons p1 .nil))) (.cons (.tup h2 (.cons (.int f2) (.cons p2 .nil))) .nil)
  obtain ⟨as, hr⟩ := Dp.readsAll I _ _ _ dp rv
  obtain ⟨i1, rv1, q1, _⟩ := I.tuple h1
  obtain ⟨i2, rv2, q2, _⟩ := I.tuple h2
  cases rv with
  | cons r1 rr =>
  cases rr with
  | cons r2 rr =>
  cases rr
  cases r1
  cases r2
  have al : ∀ {f g : Int} {d e : PyData}, PySem.W.alike d e = true → PySem.W.alike (.tuple [.int f, d]) (.tuple [.int g, e]) = true := fun {f g d e} h => by
    rw [PySem.W.alike, PySem.W.alikeAll, PySem.W.alike, PySem.W.alikeAll, h, PySem.W.alikeAll]; rfl
  refine PySem.W.max_list_data (x := .tuple [.int f1, d1]) (xs := [.tuple [.int f2, d2]]) (I.ok.hd hc) p.isList hr ⟨fun x hx y hy => ?_, fun x hx => ?_⟩ (by omega) fun i v h' tk bs hv hrd hk => ?_
  · simp only [List.mem_cons, List.not_mem_nil, or_false] at hx hy
    rcases hx with rfl | rfl <;> rcases hy with rfl | rfl
    · exact al a11
    · exact al a12
    · exact al a21
    · exact al a22
  · simp only [List.mem_cons, List.not_mem_nil, or_false] at hx
    rcases hx with rfl | rfl <;> exact fun z => nomatch z
  · have em : PySem.W.maxD (.tuple [.int f1, d1]) [.tuple [.int f2, d2]] = if f1 < f2 then .tuple [.int f2, d2] else .tuple [.int f1, d1] := by
      show (if PySem.W.dataLt _ _ = true then _ else _) = _
      rw [lt_pair d1 d2 hne]
      by_cases c : f1 < f2
      · rw [if_pos c, if_pos (decide_eq_true c)]
      · rw [if_neg c, if_neg (fun z => c (of_decide_eq_true z))]
    rw [em] at hrd
    -- what reads as (f, ..) begins with f
    have first : ∀ {T : Addr} {f g : Int} {x : V} {d : PyData} {ii : List Value}, Vals [.int f, x] ii → (∃ o, s.heap.get? T = some o ∧ o.cls = .type "tuple" ∧ ∃ n, o.data = .seq ii.toArray n) → Reads h' (.ref T) (.tuple [.int g, d]) bs → f = g := by
      intro T f g x d ii rv ⟨o, ho, _, n, hd⟩ hrd
      cases hrd with
      | tuple g1 g2 g3 g4 =>
        have := hk _ _ ho
        rw [g1] at this
        cases this
        rw [hd] at g3
        cases g3
        cases rv with
        | cons r _ =>
          obtain ⟨t, rfl⟩ := r
          cases g4 with
          | cons g5 _ =>
            cases g5
            rfl
    obtain ⟨o1, ho1, hc1, n1, hd1⟩ := q1
    obtain ⟨o2, ho2, hc2, n2, hd2⟩ := q2
    have fin : v = .ref (if f1 < f2 then T2 else T1) := by
      match i, hv with
      | 0, hv =>
        obtain rfl : Value.ref T1 = v := by simpa using hv
        by_cases c : f1 < f2
        · rw [if_pos c] at hrd
          exact absurd (first rv1 ⟨o1, ho1, hc1, n1, hd1⟩ hrd) hne
        · rw [if_neg c]
      | 1, hv =>
        obtain rfl : Value.ref T2 = v := by simpa using hv
        by_cases c : f1 < f2
        · rw [if_pos c]
        · rw [if_neg c] at hrd
          exact absurd (first rv2 ⟨o2, ho2, hc2, n2, hd2⟩ hrd).symm hne
      | i + 2, hv => simp at hv
    rw [fin]
    exact ⟨.ref (if f1 < f2 then T2 else T1), H, I.kept hk, rfl, q⟩
end
end GX

set_option Elab.async false
set_option linter.all false
set_option maxRecDepth 100000
set_option maxHeartbeats 4000000
namespace L2
open PySem PySem.Spec PyProof.Rows
/-- C(), C's own __init__ keeping sp, no field set -/
def tMkO0 (C : Addr) (sp : Sp) : St → Hp → XK → Prop := fun σ H Q => ∀ a, H a = none → sp [.ref a] (upd H a (exo a C none))
  (fun v H2 => v = .non ∧ H2 a = some (exo a C none) ∧ Q (.ref C) none (del H2 a)) (fun _ _ _ => False)
section
variable {X : Cx} {p pos : Pos}
theorem mk_endN0 {pins : List (Addr × Obj)} {σ : St} {H1 H2 : Hp} {hp hp2 h2 : Heap} {g1 g2 : Array GenState} {d1 d2 : Drawn} {t1 t2 : Nat} {os1 os2 : OsState} {a C : Addr} (I1 : Inv X pins σ H1 ⟨hp, g1, d1, t1, os1⟩)
    (ha : hp.objs.size ≤ a) (k : ∀ b o, hp.get? b = some o → hp2.get? b = some o) (un : Un (frs X.stack) [] (upd H1 a (exo a C none)) H2 hp2 h2) (hok : HOk X.prog X.w H2 h2) (ho : os2 = os1) (hb : AllBare g2)
    (ea : H2 a = some (exo a C none)) :
    ∃ (t0 : Addr) (G : Heap), Inv X pins σ (del H2 a) ⟨G, g2, d2, t2, os2⟩ ∧ (∀ b o, G.get? b = some o → h2.get? b = some o) ∧ G.get? a = none ∧
      h2.get? a = some ({ cls := .ref C, dict := none, data := .fields #[.ref t0, .none, .none, .none, .bool false, .none] } : Obj) ∧ (del H2 a) a = none := by
  obtain ⟨t0, hoe⟩ := exo_at hok ea
  have hn : H1 a = none := I1.hok.fresh ha
  obtain ⟨G, g1', g2'⟩ := restrict h2 fun b => decide (b ≠ a)
  have gk : ∀ b, b ≠ a → G.get? b = h2.get? b := fun b hb => g1' b (decide_eq_true hb)
  have ge : G.get? a = none := g2' a (by simp)
  have nha : ∀ {b : Addr} {o : Obj}, hp.get? b = some o → b ≠ a := fun {b o} z => Nat.ne_of_lt (Nat.lt_of_lt_of_le (Heap.lt_size z) ha)
  have up : ∀ {b : Addr}, b ≠ a → H1 b = none → upd H1 a (exo a C none) b = none := fun {b} hb n => by rw [upd_ne hb]; exact n
  have U : Un (frs X.stack) [] H1 (del H2 a) hp G := {
    keep := fun b o z n hf hx => by
      rw [gk b (nha z)]
      exact un.keep b o (k b o z) (up (nha z) n) hf hx
    slot := fun b o z n hf hx => by
      rw [gk b (nha z)]
      exact un.slot b o (k b o z) (up (nha z) n) hf hx
    free := fun b o z n hx => by
      rw [del_ne (nha z)]
      exact un.free b o (k b o z) (up (nha z) n) hx
    there := fun b o z hx => by
      rw [gk b (nha z)]
      exact un.there b o (k b o z) hx
    tups := fun b xs z => by
      rw [del_ne (ne_of_none z hn)]
      exact un.tups b xs (by rw [upd_ne (ne_of_none z hn)]; exact z)
    frzs := fun b o v z => by
      rw [del_ne (ne_of_none z hn)]
      exact un.frzs b o v (by rw [upd_ne (ne_of_none z hn)]; exact z)
    tbls := fun b ps z => by
      rw [del_ne (ne_of_none z hn)]
      exact un.tbls b ps (by rw [upd_ne (ne_of_none z hn)]; exact z) }
  have hok3 : HOk X.prog X.w (del H2 a) G := fun b o z => by
    have hba : b ≠ a := fun e => by
      rw [e, del_same] at z
      cases z
    rw [del_ne hba] at z
    have noa : ∀ {c : Addr}, H2 c = some (.own b) → c ≠ a := fun {c} hc => at_ne ea hc exo_own
    exact (hok b o z).stay (fun c v hc y => by
        have hca : c ≠ a := by
          rcases hc with hc | hc
          · rw [hc]
            exact hba
          · exact noa hc
        rw [gk c hca]
        exact y)
      (fun c hc => by rw [del_ne (noa hc)]; exact hc) (fun c xs hc => by rw [del_ne (at_ne ea hc exo_tup)]; exact hc)
  have J : Inv X pins σ (del H2 a) ⟨G, g2, d2, t2, os2⟩ := I1.call' (ch := []) ho U hok3 hb (fun b z => absurd z (by simp))
  refine ⟨t0, G, J, fun b o z => ?_, ge, hoe, del_same⟩
  by_cases hba : b = a
  · rw [hba, ge] at z
    cases z
  · exact (gk b hba).symm.trans z
theorem pmk_oex0 {CX : CXT} {x : Str} {C fI : Addr} {k : Nat} {fd : FuncData} {ps : List Str} {sp : Sp} (T : OexC X.K C) (iC : PySem.W.findIn X.K (.ref C) "__init__" = some (some (.ref fI))) (tI : PySem.W.typeIn X.K (.ref fI) = some (.type "function"))
    (F1 : FnOk X.prog X.w X.K X.mg X.base CX k fI fd ps sp) (hr : Room (k + 1) X.A) (hb : Binds X.K fd ps []) (hx : Passes CX X (fun _ _ _ => False)) (hg : Gl X x) (hm : X.mg x = some (.ref C)) (hdb : (x == ("__debug__" : Str)) = false := by decide) :
    PMk X (.Call (.Name x p) [] [] pos) (tMkO0 C sp) := by
  intro pins s σ H1 Q I1 h
  obtain ⟨nm, q, N, bs, bm, sn, sub, ab, col, dd, k0, k1, k2, k3, k5, hC, hbm⟩ := T.cls
  refine wpAny_Call_Name_kw (ld_glob I1 hg hm ?_ hdb)
  refine PySem.W.callWith_K0 I1.kIn T.kC ?_
  show wpAny _ _ (call (.ref C) []) _ _ _
  obtain ⟨hp, g, dr, tk, os⟩ := s
  have hsz : hp.objs.size ≤ hp.objs.size + 1 := Nat.le_succ _
  have hn : H1 (hp.objs.size + 1) = none := I1.hok.fresh hsz
  have hq := h (hp.objs.size + 1) hn
  have kk : ∀ b o, hp.get? b = some o → ((hp.push (PySem.W.kdv_tup [])).push (PySem.HandSPX.excO C hp.objs.size)).get? b = some o := fun b o e => Heap.get?_push_of_some _ (Heap.get?_push_of_some _ e)
  have hget : ((hp.push (PySem.W.kdv_tup [])).push (PySem.HandSPX.excO C hp.objs.size)).get? (hp.objs.size + 1) = some (PySem.HandSPX.excO C hp.objs.size) := by heap_get
  have I2 : Inv X pins σ (upd H1 (hp.objs.size + 1) (exo (hp.objs.size + 1) C none)) ⟨(hp.push (PySem.W.kdv_tup [])).push (PySem.HandSPX.excO C hp.objs.size), g, dr, tk, os⟩ :=
    I1.laid (t' := tk) (a := hp.objs.size + 1) (o := exo (hp.objs.size + 1) C none) (h' := (hp.push (PySem.W.kdv_tup [])).push (PySem.HandSPX.excO C hp.objs.size)) kk hsz (exo_ok hget)
  have r2 : Vals [V.ref (hp.objs.size + 1)] [Value.ref (hp.objs.size + 1)] := .cons rfl .nil
  have hl : ([Value.ref (hp.objs.size + 1)] ++ []).length = ps.length := by
    have e := r2.length
    rw [F1.len _ _ _ _ hq] at e
    rw [List.append_nil]
    exact e.symm
  refine wpAny_call (PySem.HandSPX.call_own F.excBase_ValueError (fun Y => PySem.HandSPX.refsVE_contains Y bm hbm) (I1.kIn _ _ hC) (PySem.W.looks_findIn I1.kIn iC) (fun self => PySem.W.bind_fn I1.kIn self tI) (Nat.zero_le _)
    (codeAny_mono (F1.run _ X.stack _ _ ⟨[Value.ref (hp.objs.size + 1)], []⟩ ([Value.ref (hp.objs.size + 1)] ++ []) _ _ (fun _ _ _ => False) (hr.make C [] []) (I2.env0.make C [] []) (hb _ [Value.ref (hp.objs.size + 1)] I2.kIn hl) r2 hq) fun r s' hq' => ?_))
  cases r with
  | error er => exact hx pins σ _ _ er s' I2 hq'
  | ok fl =>
    cases fl with
    | ret u =>
      obtain ⟨v, H2, os2, bare2, un2, hok2, rv, ev, ea, q2⟩ := hq'
      subst ev
      obtain ⟨h2, g2, d2, t2, os'⟩ := s'
      obtain ⟨t0, G, J, kG, ge, hoe, na⟩ := mk_endN0 (d2 := d2) (t2 := t2) I1 hsz kk un2 hok2 os2 bare2 ea
      exact ⟨rv, _, _, _, ⟨G, g2, d2, t2, os'⟩, _, .ref C, none, rfl, J, kG, ge, hoe, ⟨rfl, rfl⟩, rfl, rfl, na, rfl, bare2, raises_own T.exC T.tyC, q2⟩
    | next => exact False.elim hq'
    | brk => exact False.elim hq'
    | cont => exact False.elim hq'
end
end L2

set_option Elab.async false
set_option linter.all false
set_option maxRecDepth 100000
set_option maxHeartbeats 4000000
/-! sets of keys (whole numbers, texts) whose members can be walked; sorted of texts, however many -/
namespace SX
open PySem PySem.Spec PyProof.Rows L2
instance memKey (k : L2.Key) (ks : List L2.Key) : Decidable (k ∈ ks) := @List.instDecidableMemOfLawfulBEq _ instBEqOfDecidableEq inferInstance k ks
/-- an entry's key -/
def kx (e : Int × Value) : L2.Key := match e.2 with | .int i _ => .inl i | .str x _ => .inr x | _ => .inl 0
def Fine (w : World) (e : Int × Value) : Prop := RelV (kV (kx e)) e.2 ∧ e.1 = keyH w (kx e)
theorem kx_of {u : Value} {k : L2.Key} (r : RelV (kV k) u) (n : Int) : kx (n, u) = k := by
  cases k with
  | inl i => obtain ⟨t, e⟩ := (show ∃ t, u = Value.int i t from r); subst e; rfl
  | inr x => obtain ⟨t, e⟩ := (show ∃ t, u = Value.str x t from r); subst e; rfl
theorem is_iff {P : Program} {w : World} {e : Int × Value} (f : Fine w e) (k : L2.Key) : (mixKind P w).is k e.2 = true ↔ kx e = k :=
  ⟨fun h => (mixKind P w).inj e.2 _ _ (kV_is f.1) h, fun h => h ▸ kV_is f.1⟩
/-- the set at a has just the keys ks -/
def At (w : World) (h : Heap) (a : Addr) (ks : List L2.Key) : Prop :=
  ∃ o es ep t, (h.get? a = some o ∧ o.ExactSet ∧ o.data = .set es ep t) ∧ (∀ e ∈ es.toList, Fine w e) ∧ (es.toList.map kx).Perm ks ∧ ks.Nodup ∧
    (es.size < scanBound ∧ t.fits es.size = true) ∧ Ris t.place.toList ∧ (w.params.followText "set-order" = true ∨ t.led = true)
section
variable {P : Program} {w : World} {h h' : Heap} {a : Addr} {ks : List L2.Key}
theorem At.keep (R : At w h a ks) (k : ∀ o, h.get? a = some o → h'.get? a = some o) : At w h' a ks := by
  obtain ⟨o, es, ep, t, ⟨ho, hx, hd⟩, rest⟩ := R
  exact ⟨o, es, ep, t, ⟨k o ho, hx, hd⟩, rest⟩
theorem At.perm {js : List L2.Key} (R : At w h a ks) (p : ks.Perm js) : At w h a js := by
  obtain ⟨o, es, ep, t, q, g, m, nd, rest⟩ := R
  exact ⟨o, es, ep, t, q, g, m.trans p, p.nodup_iff.mp nd, rest⟩
theorem fine_elems {l : List (Int × Value)} (g : ∀ e ∈ l, Fine w e) : ElemsOf (mixKind P w) l := fun e m => ⟨⟨kx e, kV_is (g e m).1, (g e m).2⟩, key_scan (g e m).1⟩
theorem mem_keys {l : List (Int × Value)} (g : ∀ e ∈ l, Fine w e) (k : L2.Key) : k ∈ l.map kx ↔ ∃ e ∈ l, (mixKind P w).is k e.2 = true := by
  constructor
  · intro q
    obtain ⟨e, m, z⟩ := List.mem_map.mp q
    exact ⟨e, m, (is_iff (g e m) k).mpr z⟩
  · rintro ⟨e, m, z⟩
    exact List.mem_map.mpr ⟨e, m, (is_iff (g e m) k).mp z⟩
theorem At.setOf (R : At w h a ks) : h.SetOf (mixKind P w) a (fun k => decide (k ∈ ks)) ks.length := by
  obtain ⟨o, es, ep, t, ⟨ho, hx, hd⟩, g, m, nd, ⟨hb, hf⟩, -⟩ := R
  refine ⟨o, es, ep, t, ho, hx, hd, fine_elems g, fun k => ?_, hb, hf, ?_⟩
  · rw [decide_eq_true_iff, ← m.mem_iff]
    exact mem_keys g k
  · have z := m.length_eq
    rw [List.length_map, Array.length_toList] at z
    exact z
theorem At.new (w : World) (h : Heap) : At w (h.push { cls := .type "set", dict := none, data := .set #[] 0 (.fresh 0 0 (!w.params.followText "set-order")) }) h.objs.size [] := by
  refine ⟨_, #[], 0, _, ⟨Heap.get?_push_size _ rfl, ⟨rfl, rfl, rfl⟩, rfl⟩, fun e m => absurd m (by simp), List.Perm.nil, List.nodup_nil, ⟨by decide, by rfl⟩, List.Pairwise.nil, ?_⟩
  cases q : w.params.followText "set-order" with
  | true => exact .inl rfl
  | false => exact .inr rfl
theorem put_at {o : Obj} {es es' : Array (Int × Value)} {ep : Nat} {t t' : SetTable} (q : h.get? a = some o ∧ o.ExactSet ∧ o.data = .set es ep t) :
    ∃ o', (h.update a (Obj.putSet es' t')).get? a = some o' ∧ o'.ExactSet ∧ o'.data = .set es' (ep + 1) t' := by
  obtain ⟨q1, q2, q3⟩ := q
  have e : Obj.putSet es' t' o = { o with data := .set es' (ep + 1) t' } := putSet_of es' t' q3
  refine ⟨Obj.putSet es' t' o, Heap.get?_update_self (Obj.putSet es' t') q1 (by rw [e]; rfl), ?_, by rw [e]⟩
  rw [e]; exact q2
end
section
variable {P : Program} {w : World} {A : Around} {E : Value → Shared → Prop} {s : Shared} {a : Addr} {ks : List L2.Key}
/-- what stands behind the new entry's laying -/
theorem tail_ok {g : Bool → Sem Unit} (hg : ∀ (b : Bool) (s1 : Shared) (Q1 : Unit → Shared → Prop), Q1 () s1 → wpAny (model P w) A (g b) Q1 E s1)
    {o : Obj} {es es1 : Array (Int × Value)} {ep : Nat} {t t1 : SetTable} (q : s.heap.get? a = some o ∧ o.ExactSet ∧ o.data = .set es ep t)
    (f1 : ∀ e ∈ es1.toList, Fine w e) (m1 : (es1.toList.map kx).Perm ks) (nd : ks.Nodup) (b1 : es1.size < scanBound) (t1f : t1.fits es1.size = true) (r1 : Ris t1.place.toList) (l1 : w.params.followText "set-order" = true ∨ t1.led = true)
    {wasDummy : Bool} {R : Option Bool → Shared → Prop} (hR : ∀ h1, Heap.SameBut a s.heap h1 → At w h1 a ks → R (some true) { s with heap := h1 }) :
    wpAny (model P w) A (do
      storeSet a es1 t1
      if (!wasDummy && t1.tooFull) = true then do
        g (relayAll t1 es1 (SetTable.grown es1.size)).2.2
        storeSet a (relayAll t1 es1 (SetTable.grown es1.size)).1 (relayAll t1 es1 (SetTable.grown es1.size)).2.1
        pure (some true)
      else pure (some true)) R E s := by
  refine wpAny_bind (wpAny_storeSet_of q.1 q.2.2 ?_ (fits_of_scanBound b1))
  obtain ⟨o1, q1⟩ := put_at (es' := es1) (t' := t1) q
  have same := Heap.SameBut.update s.heap a (Obj.putSet es1 t1)
  by_cases full : (!wasDummy && t1.tooFull) = true
  · rw [if_pos full]
    obtain ⟨z1, z2, z3, z4⟩ : ((relayAll t1 es1 (SetTable.grown es1.size)).1.toList.Perm es1.toList) ∧ ((relayAll t1 es1 (SetTable.grown es1.size)).2.1.fits (relayAll t1 es1 (SetTable.grown es1.size)).1.size = true) ∧
        Ris (relayAll t1 es1 (SetTable.grown es1.size)).2.1.place.toList ∧ (relayAll t1 es1 (SetTable.grown es1.size)).2.1.led = t1.led := ⟨relayAll_perm .., relayAll_fits .., relayAll_ris .., relayAll_led ..⟩
    generalize relayAll t1 es1 (SetTable.grown es1.size) = Y at z1 z2 z3 z4 ⊢
    have sz : Y.1.size = es1.size := by have z := z1.length_eq; rwa [Array.length_toList, Array.length_toList] at z
    have b2 : Y.1.size < scanBound := sz ▸ b1
    refine wpAny_bind (hg _ _ _ (wpAny_bind (wpAny_storeSet_of q1.1 q1.2.2 ?_ (fits_of_scanBound b2))))
    obtain ⟨o2, q2⟩ := put_at (es' := Y.1) (t' := Y.2.1) q1
    refine wpAny_pure (hR _ (same.trans (Heap.SameBut.update _ a _)) ⟨o2, Y.1, _, Y.2.1, q2, fun e m => f1 e (z1.mem_iff.mp m), (z1.map kx).trans m1, nd, ⟨b2, z2⟩, z3, ?_⟩)
    exact l1.imp id fun z => z4.trans z
  · rw [if_neg full]
    exact wpAny_pure (hR _ same ⟨o1, es1, _, t1, q1, f1, m1, nd, ⟨b1, t1f⟩, r1, l1⟩)
theorem gave_ok (b : Bool) (s1 : Shared) (Q1 : Unit → Shared → Prop) (q : Q1 () s1) : wpAny (model P w) A (match b with | true => rule "set.scan.the-table-gave-way" | false => pure ()) Q1 E s1 := by
  cases b with
  | true => exact wpAny_rule q
  | false => exact wpAny_pure q
theorem add_hashed {k : L2.Key} {x : Value} (rx : RelV (kV k) x) {Q : Bool → Shared → Prop} (R : At w s.heap a ks) (room : ks.length + 1 < scanBound)
    (hQ : ∀ h1 b, Heap.SameBut a s.heap h1 → At w h1 a (if k ∈ ks then ks else k :: ks) → Q b { s with heap := h1 }) :
    wpAny (model P w) A (setAddHashed a x ((mixKind P w).hash k)) Q E s := by
  obtain ⟨o, es, ep, t, q, g, m, nd, ⟨hb, hf⟩, hr, hl⟩ := id R
  have isx : (mixKind P w).is k x = true := kV_is rx
  have sc : x.scannable = true := key_scan rx
  have els : ElemsOf (mixKind P w) es.toList := fine_elems g
  have len : es.size = ks.length := by have z := m.length_eq; rwa [List.length_map, Array.length_toList] at z
  unfold setAddHashed setAddHashedIn
  refine wpAny_holding (wpAny_bind (wpAny_setState_of q.1 q.2.2 hf ?_))
  show wpAny _ _ (if byScan x es = true then _ else _) _ _ _
  rw [if_pos (byScan_of sc hb els)]
  unfold setAddByScan
  refine wpAny_bind (wpAny_bind (wpAny_rule (wpAny_bind (wpAny_setScan_of isx q.1 q.2.2 hf els ?_))))
  cases fi : List.findIdx? (fun e => (mixKind P w).is k e.2) es.toList with
  | some j =>
    obtain ⟨hj, pj, -⟩ := List.findIdx?_eq_some_iff_getElem.mp fi
    have inn : k ∈ ks := m.mem_iff.mp ((mem_keys (P := P) g k).mpr ⟨_, List.getElem_mem hj, pj⟩)
    refine wpAny_pure (wpAny_pure ?_)
    refine hQ s.heap false (Heap.SameBut.refl a s.heap) ?_
    rw [if_pos inn]; exact R
  | none =>
    have out : k ∉ ks := fun z => by
      obtain ⟨e, me, ie⟩ := (mem_keys (P := P) g k).mp (m.mem_iff.mpr z)
      exact Bool.noConfusion ((List.findIdx?_eq_none_iff.mp fi e me).symm.trans ie)
    have fin : ∀ h1, Heap.SameBut a s.heap h1 → At w h1 a (k :: ks) → Q true { s with heap := h1 } := fun h1 sb r => hQ h1 true sb (by rw [if_neg out]; exact r)
    dsimp only
    obtain ⟨y1, y2, y3, y4⟩ : ((layNew t es ((mixKind P w).hash k) x).1.toList.Perm (es.push ((mixKind P w).hash k, x)).toList) ∧ ((layNew t es ((mixKind P w).hash k) x).2.1.fits (layNew t es ((mixKind P w).hash k) x).1.size = true) ∧
        Ris (layNew t es ((mixKind P w).hash k) x).2.1.place.toList ∧ (layNew t es ((mixKind P w).hash k) x).2.1.led = t.led := ⟨layNew_perm .., layNew_fits .., layNew_ris _ _ _ _ hr, layNew_led ..⟩
    generalize layNew t es ((mixKind P w).hash k) x = Y at y1 y2 y3 y4 ⊢
    rw [Array.toList_push] at y1
    have pc : Y.1.toList.Perm (((mixKind P w).hash k, x) :: es.toList) := y1.trans (List.perm_append_singleton _ _)
    have kxx : kx ((mixKind P w).hash k, x) = k := kx_of rx _
    have f1 : ∀ e ∈ Y.1.toList, Fine w e := fun e me => by
      rcases List.mem_cons.mp (pc.mem_iff.mp me) with z | z
      · subst z
        exact ⟨by rw [kxx]; exact rx, by rw [kxx]; rfl⟩
      · exact g e z
    have m1 : (Y.1.toList.map kx).Perm (k :: ks) := by
      refine (pc.map kx).trans ?_
      rw [List.map_cons, kxx]
      exact m.cons k
    have nd1 : (k :: ks).Nodup := List.nodup_cons.mpr ⟨out, nd⟩
    have b1 : Y.1.size < scanBound := by
      have z := pc.length_eq
      rw [List.length_cons, Array.length_toList, Array.length_toList, len] at z
      rw [z]; exact room
    have l1 : w.params.followText "set-order" = true ∨ Y.2.1.led = true := hl.imp id fun z => y4.trans z
    refine wpAny_bind (gave_ok _ _ _ ?_)
    by_cases pl : Y.2.1.plain = true
    · rw [if_pos pl]
      refine wpAny_bind ?_
      rw [hashByValue_scannable 8 sc]
      refine wpAny_pure ?_
      refine tail_ok gave_ok q f1 m1 nd1 b1 ?_ ?_ ?_ fun h1 sb r => wpAny_pure (fin h1 sb r)
      · split
        · exact y2
        · exact SetTable.fits_plain_off y2
      · split <;> exact y3
      · split <;> exact l1
    · rw [if_neg pl]
      refine wpAny_bind (wpAny_pure ?_)
      simp only [↓reduceIte]
      exact tail_ok gave_ok q f1 m1 nd1 b1 y2 y3 l1 fun h1 sb r => wpAny_pure (fin h1 sb r)
theorem add_ok {k : L2.Key} {x : Value} (rx : RelV (kV k) x) {Q : Value → Shared → Prop} (R : At w s.heap a ks) (room : ks.length + 1 < scanBound)
    (hQ : ∀ h1, Heap.SameBut a s.heap h1 → At w h1 a (if k ∈ ks then ks else k :: ks) → Q .none { s with heap := h1, toks := s.toks + 1 }) :
    wpAny (model P w) A (call (.builtin "set.add") [.ref a, x]) Q E s := by
  refine wpAny_call_entry F.slot_set_add (R.setOf (P := P)).typeIs F.entry_set_add ?_ (F.args_set_add_2 _ _)
  unfold Builtin.«set.add» Builtin.Frozenset.oneOther
  simp only [List.isEmpty_nil, bind_assoc]
  unfold Builtin.Frozenset.addrOf setAdd
  refine wpAny_bind (wpAny_pure ?_)
  try dsimp only
  refine wpAny_bind (wpAny_pure ?_)
  try dsimp only
  refine wpAny_bind (wpAny_holding (wpAny_bind ((mixKind P w).pyHash (kV_is rx) (add_hashed (s := { s with toks := s.toks + 1 }) rx R room fun h1 b sb r => ?_))))
  show wpAny _ _ (ret Value.none) _ _ _
  exact wpAny_pure ⟨_, rfl, hQ h1 sb r⟩
end
end SX

set_option Elab.async false
set_option linter.all false
set_option maxRecDepth 100000
set_option maxHeartbeats 4000000
namespace SX
open PySem PySem.Spec PyProof.Rows L2 PpSet
/-- the set of the keys ks at a, as a tracked thing -/
def Own (w : World) (a : Addr) (ks : List L2.Key) : HO := .ext fun h => At w h a ks
theorem own_new {w : World} {P : Program} {H : Hp} {h : Heap} {a : Addr} {ks : List L2.Key} (R : At w h a ks) : ObjOk P w H h a (Own w a ks) :=
  ⟨R, let ⟨o, _, _, _, q, _⟩ := R; ⟨o, q.1⟩, fun _ _ p k => At.keep p k⟩
section
variable {X : Cx} {pins : List (Addr × Obj)} {σ : L2.St} {H : Hp} {s : Shared} {D : Addr} {ks : List L2.Key}
theorem own_get (I : Inv X pins σ H s) (e : H D = some (Own X.w D ks)) : At X.w s.heap D ks := (I.hok D _ e).1
theorem own_add {k : L2.Key} {x : Value} {E : Value → Shared → Prop} {Q : Value → Shared → Prop} (I : Inv X pins σ H s) (e : H D = some (Own X.w D ks)) (rx : RelV (kV k) x) (room : ks.length + 1 < scanBound)
    (h : ∀ s1, Inv X pins σ (upd H D (Own X.w D (if k ∈ ks then ks else k :: ks))) s1 → Q .none s1) : wpAny (model X.prog X.w) X.A (call (.builtin "set.add") [.ref D, x]) Q E s :=
  add_ok rx (own_get I e) room fun h1 sb r => h _ (I.write (x := D) (e := D) (t' := s.toks + 1) (by rw [e]; trivial) (.inl rfl) (fun b u n hu => (sb.2 b n).trans hu) (let ⟨o, _, _, _, q, _⟩ := r; ⟨o, q.1⟩) (own_new r))
end
section
variable {X : Cx}
/-- {elt for tg in it if ..}: a turn's body, W what holds at the i-th turn -/
def tSet (w : World) (wi : TI) (g : TG) (tt : TT) (te : TE) (vs : List Nat) : TE := fun σ H Q => wi σ H fun J H1 => ∀ D, H1 D = none → ∃ W : Nat → Nat → Hp → Prop, (∃ m, W 0 m (upd H1 D (Own w D []))) ∧
  ∀ i m H2, W i m H2 → (J.stop i H2 ∧ Q (.ref D) H2) ∨ (J.go i H2 ∧ ∃ Nx : Hp → Prop, (∀ H3, Nx H3 → ∃ m1, m1 < m ∧ W (i + 1) m1 H3) ∧
    ∀ x H3, J.yld i H2 x H3 → g x (wipe σ vs) H3 fun σ4 H4 => wipe σ4 vs = wipe σ vs ∧ tt σ4 H4 fun b H5 =>
      if b = true then te σ4 H5 fun y H6 => ∃ (k : L2.Key) (ks : List L2.Key), y = kV k ∧ H6 D = some (Own w D ks) ∧ ks.length + 1 < scanBound ∧ Nx (upd H6 D (Own w D (if k ∈ ks then ks else k :: ks))) else Nx H5)
theorem pe_set {elt tg iter : Expr} {ifs : List Expr} {scope : Scope} {own : List (PySem.Str × Nat)} {pos : Pos} {wi : TI} {g : TG} {tt : TT} {te : TE} (calm : X.calm = true) (nd : X.N.Nodup) (hi : PI X tg iter wi) (ok : BlkOk X.N X.env.scope scope own)
    (hg : ∀ (s0 : Shared) (H0 : Hp) (C : Addr) (cl : List (PySem.Str × Addr)) (fp : List Addr), PG (X.blk s0 H0 scope (compEnvC scope cl C X.env) fp) tg g)
    (ht : ∀ (s0 : Shared) (H0 : Hp) (C : Addr) (cl : List (PySem.Str × Addr)) (fp : List Addr), PTs (X.blk s0 H0 scope (compEnvC scope cl C X.env) fp) ifs tt)
    (he : ∀ (s0 : Shared) (H0 : Hp) (C : Addr) (cl : List (PySem.Str × Addr)) (fp : List Addr), PE (X.blk s0 H0 scope (compEnvC scope cl C X.env) fp) elt te)
    (hs : ∀ v, foldedSetIterable iter X.env v = pure v := by intro _; rfl) : PE X (.SetComp elt [⟨tg, iter, ifs, 0⟩] scope pos) (tSet X.w wi g tt te (own.map (·.2))) := by
  constructor
  intro pins s σ H Q I h
  rw [eval_SetComp]
  have free : ∀ y ∈ scope.names, y.2 = .free → ∃ c, X.env.cells.lookup y.1 = some c := fun y m e => (ok.free y m e).elim (fun z => I.ok.has _ (.inl z)) fun z => I.ok.has _ (.inr z)
  refine wpAny_comprehension_free (use := none) rfl hs (closure_ok free) ok.kind (fun y m e => by rw [ok.uniq y m, e]) (thn (hi.run pins s σ H _ I h) fun _ _ first => thn first fun _ s2 second => ?_)
  obtain ⟨it, fp, tn, J, H2, rfl, I2, T, st2, away, q⟩ := second
  refine newSet_ok (newEnv_comp ?_)
  generalize hD : s2.heap.objs.size = D
  obtain ⟨W, ⟨m0, w0⟩, turn⟩ := q D (I2.hok.fresh (Nat.le_of_eq hD))
  -- the new set
  generalize e3 : ({ s2 with heap := s2.heap.push { cls := .type "set", dict := none, data := .set #[] 0 (.fresh 0 0 (!X.w.params.followText "set-order")) } } : Shared) = s3
  have I3 : Inv X pins σ (upd H2 D (Own X.w D [])) s3 := by
    subst e3
    refine I2.laid (t' := s2.toks) (fun _ _ z => Heap.get?_push_of_some _ z) (Nat.le_of_eq hD) ?_
    subst hD
    exact own_new (At.new X.w _)
  have grown : ∀ b o, s2.heap.get? b = some o → s3.heap.get? b = some o := fun b o z => by subst e3; exact Heap.get?_push_of_some _ z
  have size3 : s3.heap.objs.size = s2.heap.objs.size + 1 := by subst e3; exact Heap.size_push _ _
  have away3 : ∀ b ∈ fp, FpOk X pins (upd H2 D (Own X.w D [])) b ∧ b < s3.heap.objs.size := fun b m => by
    obtain ⟨o, z, -⟩ := T.obj _ _ st2 b m
    have lt : b < s2.heap.objs.size := Heap.lt_size z
    refine ⟨⟨(upd_ne (by rw [← hD]; exact Nat.ne_of_lt lt)).trans (away b m).1, (away b m).2⟩, by rw [size3]; exact Nat.lt_succ_of_lt lt⟩
  have st3 : tn 0 s3.heap := T.keep _ _ _ st2 fun b _ o z => grown b o z
  have I4 := block_start I3 ok nd away3
  have pg := hg s3 (upd H2 D (Own X.w D [])) s3.heap.objs.size (cellsFrom (s3.heap.objs.size + 1) scope.names (cloFrom X.env.cells scope.names [])) fp
  have pt := ht s3 (upd H2 D (Own X.w D [])) s3.heap.objs.size (cellsFrom (s3.heap.objs.size + 1) scope.names (cloFrom X.env.cells scope.names [])) fp
  have pe := he s3 (upd H2 D (Own X.w D [])) s3.heap.objs.size (cellsFrom (s3.heap.objs.size + 1) scope.names (cloFrom X.env.cells scope.names [])) fp
  have bare3 : ∀ b ∈ fp, (upd H2 D (Own X.w D [])) b = none := fun b m => (away3 b m).1.1
  show codeAny _ _ (.compStart (.SetComp elt [⟨tg, iter, ifs, 0⟩] scope pos) 0 (.ref it) (.ref D) (compEnvC scope (cellsFrom (s3.heap.objs.size + 1) scope.names (cloFrom X.env.cells scope.names [])) s3.heap.objs.size X.env)) _ { s3 with heap := pushCells (s3.heap.push { cls := .type "dict", data := .dict #[] }) scope.names }
  generalize ec : compEnvC scope (cellsFrom (s3.heap.objs.size + 1) scope.names (cloFrom X.env.cells scope.names [])) s3.heap.objs.size X.env = ce at I4 pg pt pe ⊢
  have loc : ce.locals = s3.heap.objs.size := by subst ec; rfl
  generalize upd H2 D (Own X.w D []) = H3 at I3 I4 pg pt pe w0 bare3 away3
  generalize e4 : ({ s3 with heap := pushCells (s3.heap.push { cls := .type "dict", data := .dict #[] }) scope.names } : Shared) = s4 at I4 ⊢
  have st4 : tn 0 s4.heap := T.keep _ _ _ st3 fun b _ o z => by subst e4; exact pushCells_keeps _ _ _ _ (Heap.get?_push_of_some _ z)
  have apart : ∀ {σ1 : L2.St} {H1 : Hp} {s1 : Shared}, Inv (X.blk s3 H3 scope ce fp) [] σ1 H1 s1 → (∀ b ∈ fp, H1 b = none) → ∀ b ∈ fp, FpOk (X.blk s3 H3 scope ce fp) [] H1 b :=
    fun J1 n1 b m => ⟨n1 b m, (J1.ok.exf b m).1, J1.ok.exfs b m, .inl m, fun x c z => (J1.ok.exf b m).2 x c z, fun p hp => absurd (show p ∈ ([] : List (Addr × Obj)) ++ [] from hp) (by simp)⟩
  have loop := compLoopS_any (prog := X.prog) (w := X.w) (A := X.A) (R := compPost (model X.prog X.w) X.A X.xe none (EP X pins σ Q) (.ref D) s3.heap.objs.size) (s := s4) (env := ce) (elt := elt) (target := tg) (iter := iter) (ifs := ifs) (scope := scope) (pos := pos) (it := .ref it) (acc := .ref D)
    (fun n s1 => ∃ i H1, Inv (X.blk s3 H3 scope ce fp) [] (wipe σ (own.map (·.2))) H1 s1 ∧ tn i s1.heap ∧ (∀ b ∈ fp, H1 b = none) ∧ W i n H1) (by
      rintro n s5 ⟨i, H5, I5, st5, n5, w5⟩
      rcases turn i n H5 w5 with ⟨stop, qq⟩ | ⟨go, Nx, hNx, step⟩
      · refine thnF (T.done (X.blk s3 H3 scope ce fp) rfl rfl rfl calm i [] s5 _ H5 (fun _ _ => False) I5 (apart I5 n5) st5 stop) fun r s6 z => ?_
        obtain ⟨rfl, I6⟩ := z
        have I7 : Inv X pins σ H5 s6 := I3.call' (ch := fp) I6.os I6.base I6.hok I6.bare fun b m => let z := (away3 b m).1; ⟨z.2.2.2.1, z.2.1, z.2.2.2.2.1, z.2.2.2.2.2⟩
        have nC : H5 s3.heap.objs.size = none := loc ▸ (show H5 ce.locals = none from I6.free)
        obtain ⟨m, hn, -⟩ := I6.loc
        have hn1 : s6.heap.Ns s3.heap.objs.size m := loc ▸ (show s6.heap.Ns ce.locals m from hn)
        obtain ⟨f0, f1, f2, f3, f4, f5⟩ := I3.fpOk (Nat.le_refl _) nC
        exact ⟨m, hn1, fun h7 sb => ⟨.ref D, H5, I7.turned (t' := s6.toks) (fun b o hb z => (sb.2 b hb).trans z) f0 f1 f3 f4 f5, rfl, qq⟩⟩
      · refine thnF (T.item (X.blk s3 H3 scope ce fp) rfl rfl rfl calm i [] s5 _ H5 (fun _ _ => False) I5 (apart I5 n5) st5 go) fun r s6 z => ?_
        obtain ⟨u, rfl, h6⟩ := z
        refine thnF h6 fun _ s7 z => ?_
        obtain ⟨x, H7, I7, r7, y7, st7, n7⟩ := z
        refine thnF (pg.run _ s7 _ H7 x u _ (I7.pinned (apart I7 n7) (T.obj _ _ st7)) r7 (step x H7 y7)) fun _ s8 z => ?_
        obtain ⟨σ8, H8, I8, hw8, q8⟩ := z
        refine thnF (pt.run _ s8 σ8 H8 _ I8 q8) fun b s9 z => ?_
        obtain ⟨H9, I9, q9⟩ := z
        have fin : ∀ {s1 : Shared} {H1 : Hp}, Inv (X.blk s3 H3 scope ce fp) ([] ++ pinsAt fp s7.heap) σ8 H1 s1 → Nx H1 → ∃ m, m < n ∧ ∃ i H1, Inv (X.blk s3 H3 scope ce fp) [] (wipe σ (own.map (·.2))) H1 s1 ∧ tn i s1.heap ∧ (∀ b ∈ fp, H1 b = none) ∧ W i m H1 := by
          intro s1 H1 J1 nx
          obtain ⟨m1, hm, w1⟩ := hNx H1 nx
          have pinned : ∀ b ∈ fp, ∀ o, s7.heap.get? b = some o → s1.heap.get? b = some o ∧ H1 b = none := fun b m o z =>
            let y := J1.pin (b, o) (List.mem_append_right _ (List.mem_append_right _ (mem_pinsAt m z))); ⟨y.1, y.2.1⟩
          refine ⟨m1, hm, i + 1, H1, J1.unpinned.weak (by rw [← hw8, wipe_length]) (fun j v z => (wipe_some (hw8 ▸ z)).1), T.keep _ _ _ st7 fun b m o z => (pinned b m o z).1, fun b m => ?_, w1⟩
          obtain ⟨o, z, -⟩ := T.obj _ _ st7 b m
          exact (pinned b m o z).2
        cases b with
        | false => exact fin I9 q9
        | true =>
          refine thnF (pe.run _ s9 σ8 H9 _ I9 q9) fun v s10 z => ?_
          obtain ⟨yv, H10, I10, r10, k, ks, rfl, eD, room, nx⟩ := z
          exact own_add (X := X.blk s3 H3 scope ce fp) I10 eD r10 room fun s11 I11 => fin I11 nx) m0 ⟨0, H3, I4, st4, bare3, w0⟩
  exact codeAny_compStart_set loop (T.self X.A 0 _ _ _ st4 loop)
end
end SX

set_option Elab.async false
set_option linter.all false
set_option maxRecDepth 100000
set_option maxHeartbeats 4000000
namespace SX
open PySem PySem.Spec PyProof.Rows L2 SrtO
/-- a text's value -/
def tx : Value → Str
  | .str x _ => x
  | _ => ⟨#[]⟩
def ltT (v u : Value) : Bool := decide ((tx v).cps.toList < (tx u).cps.toList)
theorem swo_txt : Swo ltT := by
  refine ⟨fun x y h => decide_eq_false (List.lt_asymm (of_decide_eq_true h)), fun x y z h1 h2 => decide_eq_false ?_⟩
  have a := of_decide_eq_false h1
  have b := of_decide_eq_false h2
  exact List.not_lt.mpr (List.le_trans (List.not_lt.mp a) (List.not_lt.mp b))
theorem strs_tx {vs : List Value} (h : ∀ v ∈ vs, ∃ x t, v = Value.str x t) : StrsAre vs (vs.map tx) := by
  induction vs with
  | nil => exact .nil
  | cons v r ih =>
    obtain ⟨x, t, rfl⟩ := h v List.mem_cons_self
    exact .cons x t (ih fun u m => h u (List.mem_cons_of_mem _ m))
section
variable {prog : Program} {w : World} {A : Around} {E : Value → Shared → Prop} {s : Shared}
theorem txt_sortable {a : Addr} {vs : List Value} (h : ∀ v ∈ vs, ∃ x t, v = Value.str x t) (two : 2 ≤ vs.length) : SortableO prog w A s a vs ltT := by
  intro h1 _
  refine ⟨oneType', fun Q E q => ?_, fun p q mp mq => ?_⟩
  · match vs, h, two with
    | u :: v :: r, h, _ => rw [keyKind_strs (strs_tx h)]; exact wpAny_pure q
  · obtain ⟨x, t, e⟩ := h _ mp
    obtain ⟨y, u, e1⟩ := h _ mq
    show wpAny (model prog w) A (keyLt' oneType' p.1 q.1) (fun r s1 => s1 = _ ∧ r = ltT p.1 q.1) _ _
    rw [e, e1]
    exact oneLt_str ⟨rfl, rfl⟩
end
def kt : L2.Key → Str
  | .inr x => x
  | .inl _ => ⟨#[]⟩
theorem kt_inr (l : List Str) : (l.map Sum.inr).map kt = l := by rw [List.map_map]; exact List.map_id l
/-- texts that stand in order, each at most once or more often -/
def Up (ys : List Str) : Prop := ys.Pairwise fun x y => ¬ y.cps.toList < x.cps.toList
theorem up_of {out : List Value} (h : Srtd ltT out) : Up (out.map tx) := List.pairwise_map.mpr (h.imp fun {x y} q => of_decide_eq_false q)
/-- sorted(l), l a list of texts -/
def rSortT (K : PySem.W.Frag) : List V → Hp → VK → Prop := fun vs H Q => ∃ (a : Addr) (xs : List Str), vs = [V.ref a] ∧ SqL K H a (xs.map V.str) ∧
  ∀ (ys : List Str) (p : Addr), ys.Perm xs → Up ys → H p = none → Q (.ref p) (upd H p (.lst (ys.map V.str)))
/-- sorted(a set of texts) -/
def rSortX (w : World) : List V → Hp → VK → Prop := fun vs H Q => ∃ (a : Addr) (xs : List Str), vs = [V.ref a] ∧ H a = some (Own w a (xs.map Sum.inr)) ∧
  ∀ (ys : List Str) (p : Addr), ys.Perm xs → ys.Nodup → Up ys → H p = none → Q (.ref p) (upd H p (.lst (ys.map V.str)))
section
variable {X : Cx}
theorem cr_sortT : CallR X (.builtin "sorted") (rSortT X.K) := by
  intro pins s σ H vs us Q I r h
  obtain ⟨a, xs, rfl, hs, q⟩ := h
  obtain ⟨its, rv, pl, hz⟩ := I.list hs
  rw [Vals.ref1 r]
  have sa := rv.strs
  refine sorted_ord swo_txt pl.isList (by rw [← rv.length]; exact hz) (fun two _ _ _ _ => txt_sortable sa.all two) fun out h1 h2 => ?_
  have all : ∀ v ∈ out, ∃ x t, v = Value.str x t := fun v m => sa.all v (h2.perm.mem_iff.mp m)
  have key : its.map tx = xs := by
    have z := sa.strs
    rw [← z]
    exact List.map_congr_left fun v m => by obtain ⟨x, t, rfl⟩ := sa.all v m; rfl
  have pm : (out.map tx).Perm xs := key ▸ h2.perm.map tx
  obtain ⟨ep, he⟩ := sortedAll_at s.heap its out.toArray
  have hlen : ((out.map tx).map V.str).length ≤ sizeLine := by
    rw [List.length_map, pm.length_eq, ← List.length_map (as := xs) (f := V.str)]; exact hz
  refine ⟨.ref _, upd H (s.heap.objs.size + 1) (.lst ((out.map tx).map V.str)), I.laid (t' := s.toks) (fun _ _ => sortedAll_old) (Nat.le_succ _) ⟨hlen, out, ep, vals_of_strs (strs_tx all), he⟩, rfl, ?_⟩
  exact q _ _ pm (up_of h1) (I.hok.fresh (Nat.le_succ _))
theorem cr_sortX (calm : X.calm = true) : CallR X (.builtin "sorted") (rSortX X.w) := by
  intro pins s σ H vs us Q I r h
  obtain ⟨a, xs, rfl, ha, q⟩ := h
  have R := own_get I ha
  obtain ⟨o, es, ep, t, ⟨ho, hx, hd⟩, g, m, nd, ⟨hb, hf⟩, hr, hl⟩ := R
  rw [Vals.ref1 r]
  refine Calls.call_function_entry kind_sorted plain_sorted entry_sorted (args_sorted1 _) ?_
  unfold Builtin.«sorted»
  refine wpAny_bind (m := checkCount "sorted" 1 1 _) (wpAny_pure (wpAny_bind (collect_set (A := X.A.in1) (I.ok.hd calm) ⟨o, ho, hx.1, hd⟩ hf hb hr hl fun s1 vs k1 z1 g1 o1 pm => ?_)))
  have txt : ∀ v ∈ vs, ∃ x t, v = Value.str x t := fun v mv => by
    obtain ⟨e, me, rfl⟩ := List.mem_map.mp (pm.mem_iff.mp mv)
    have mk : kx e ∈ xs.map Sum.inr := m.mem_iff.mp (List.mem_map.mpr ⟨e, me, rfl⟩)
    obtain ⟨x, -, ex⟩ := List.mem_map.mp mk
    obtain ⟨t, z⟩ := (show RelV (.str x) e.2 from by have z := (g e me).1; rw [← ex] at z; exact z)
    exact ⟨x, t, z⟩
  have kk : (vs.map tx).Perm xs := by
    have zz : (vs.map fun v => kx (0, v)).Perm (es.toList.map kx) := by
      have z := pm.map fun v => kx (0, v)
      rw [List.map_map] at z
      exact z
    have z2 : vs.map (fun v => kx (0, v)) = (vs.map tx).map Sum.inr := by
      rw [List.map_map]
      exact List.map_congr_left fun v mv => by obtain ⟨x, t, rfl⟩ := txt v mv; rfl
    rw [z2] at zz
    have z3 := (zz.trans m).map kt
    rw [kt_inr, kt_inr] at z3
    exact z3
  have few : vs.length ≤ sizeLine := by
    rw [pm.length_eq, List.length_map, Array.length_toList]
    exact fits_of_scanBound hb
  refine wpAny_bind (wpAny_newList ?_ few)
  have hoL : (s1.heap.push (seqObj "list" vs.toArray 0)).get? s1.heap.objs.size = some (seqObj "list" vs.toArray 0) := Heap.get?_push_size _ rfl
  refine wpAny_bind (wpAny_holding (wpAny_call_entry slot_list_sort ⟨_, hoL, rfl⟩ entry_list_sort (list_sort_ord swo_txt hoL few (fun two => txt_sortable txt two) fun out h1 h2 => ⟨_, rfl, ?_⟩) (args_list_sort _)))
  have all : ∀ v ∈ out, ∃ x t, v = Value.str x t := fun v mv => txt v (h2.perm.mem_iff.mp mv)
  have pm2 : (out.map tx).Perm xs := (h2.perm.map tx).trans kk
  obtain ⟨c, hc⟩ := sortedHeap_at (vs := vs) (out := out.toArray) hoL
  have hlen : ((out.map tx).map V.str).length ≤ sizeLine := by
    rw [List.length_map, List.length_map, h2.perm.length_eq]; exact few
  have hn : H s1.heap.objs.size = none := I.hok.fresh z1
  have keep : ∀ b u, s.heap.get? b = some u → (sortedHeap (s1.heap.push (seqObj "list" vs.toArray 0)) s1.heap.objs.size vs out.toArray).get? b = some u := fun b u e => by
    have z := k1 b u e
    have lt := Heap.lt_size z
    rw [sortedHeap_old (Nat.ne_of_lt lt) (by rw [Heap.size_push]; exact Nat.lt_succ_of_lt lt)]
    exact Heap.get?_push_of_some _ z
  have J : Inv X pins σ (upd H s1.heap.objs.size (.lst ((out.map tx).map V.str))) { s with heap := sortedHeap (s1.heap.push (seqObj "list" vs.toArray 0)) s1.heap.objs.size vs out.toArray, gens := s1.gens, drawn := s1.drawn, toks := s1.toks } :=
    I.call (ch := []) (Un.laid keep z1 hn) (I.hok.laid keep z1 ⟨hlen, out, c, vals_of_strs (strs_tx all), hc⟩) (by rw [g1]; exact I.bare) fun _ z => nomatch z
  refine wpAny_pure ⟨_, rfl, ?_⟩
  have e : ({ s1 with heap := sortedHeap (s1.heap.push (seqObj "list" vs.toArray 0)) s1.heap.objs.size vs out.toArray } : Shared) = { s with heap := sortedHeap (s1.heap.push (seqObj "list" vs.toArray 0)) s1.heap.objs.size vs out.toArray, gens := s1.gens, drawn := s1.drawn, toks := s1.toks } := by
    obtain ⟨h, g', d, tk, os⟩ := s1
    obtain ⟨h0, g0, d0, tk0, os0⟩ := s
    cases o1
    rfl
  refine ⟨.ref s1.heap.objs.size, _, e ▸ J, rfl, q _ _ pm2 (pm2.nodup_iff.mpr ?_) (up_of h1) hn⟩
  exact (List.pairwise_map.mp nd).imp fun {x y} z (e : x = y) => z (congrArg Sum.inr e)
end
end SX

set_option Elab.async false
set_option linter.all false
set_option maxRecDepth 100000
set_option maxHeartbeats 4000000
/-! defs that are told only where no __repr__ runs further out (repr of tuples asks that) -/
namespace RG
open PySem PySem.Spec PyProof.Rows L2
/-- as FnOk, where the frames further out run no __repr__ -/
structure FnG (P : Program) (w : World) (K : PySem.W.Frag) (mg : Str → Option Value) (base : Heap) (T : CXT) (k : Nat) (f : Addr) (fd : FuncData) (ps : List Str) (sp : Sp) : Prop where
  len : ∀ vs H Q E, sp vs H Q E → vs.length = ps.length
  run : ∀ (A : Around) (out : List Env) (s : Shared) (H : Hp) (args : Args) (us : List Value) (vs : List V) (Q : VK) (E : XK), A.guards = some [] → Room k A → Env0 P w K mg base A out s H → BindsTo s fd args (ps.zip us) → Vals vs us →
    sp vs H Q E → codeAny (model P w) A (.call (.ref f) args) (CR T out P w H s Q E) s
section
variable {P : Program} {w : World} {K : PySem.W.Frag} {mg : Str → Option Value} {base : Heap}
theorem fnG_of {x qual : Str} {st : Stmt} {f : Addr} {fd : FuncData} {N ps : List Str} {k : Nat} {sp : Sp} {T : CXT} (F : Fun K x qual st f fd) (S : FnScope N ps (defScope st)) (len : ∀ vs H Q E, sp vs H Q E → vs.length = ps.length)
    (hb : ∀ (cdv : Value) (A : Around) (out : List Env) (s : Shared) (H : Hp) (vs : List V) (Q : VK) (E : XK), A.guards = some [] → Room k (A.deeper (envOfC qual (defScope st) s.heap.objs.size f cdv)) → sp vs H Q E →
      ∃ t, PSs (cxOf T P w K mg base N qual (defScope st) f cdv A out s H E) (defBody st) t ∧ t { nx := fun _ H1 => Q .non H1, rt := Q } (start N vs) H) : FnG P w K mg base T (k + 1) f fd ps sp := by
  obtain ⟨_, _, _, _, _, _, cdv, _, _, rfl, look, code⟩ := F.ex
  constructor
  · exact len
  intro A out s H args us vs Q E guard room e0 binds r hsp
  have there : ∀ b o, base.get? b = some o → s.heap.get? b = some o := fun b o e => (e0.bs b o e).1
  have KX : K.In s.heap := e0.mod.kin.keeps there
  have kinds : ∀ y ∈ ps.zip us, (defScope st).names.lookup y.1 = some .local ∨ ((defScope st).names.lookup y.1 = some .cell ∧ ((cellsFrom (s.heap.objs.size + 1) (defScope st).names []).lookup y.1).isSome = true) := fun y m =>
    (S.par y.1 (List.of_mem_zip (show (y.1, y.2) ∈ ps.zip us from m)).1).imp id fun q => ⟨q, PySem.W.cellsFrom_some _ _ _ (.inl q)⟩
  refine codeAny_call_function room.depth (KX _ _ look) rfl S.co S.gen rfl (PySem.W.codeRec_of KX code) (binds _ _ _ _ (wpAny_newFunctionEnv_cells S.kind kinds fun env he s1 x => ?_))
  subst he
  refine ⟨(e0.mod.nolimit.keeps there).keeps x.toInCall.keep, codeAny_func ?_⟩
  obtain ⟨t, ht, hq⟩ := hb cdv A out s H vs Q E guard (room.deeper _) hsp
  have done : ∀ {σ1 : L2.St} {H1 : Hp} {v : V} {u : Value} {s1 : Shared}, Inv (cxOf T P w K mg base N qual (defScope st) f cdv A out s H E) [] σ1 H1 s1 → RelV v u → Q v H1 → CE out P w H s Q u s1 :=
    fun {σ1 H1 v u s1} J rv q => ⟨v, H1, J.os, J.bare, J.base, J.hok, rv, q⟩
  refine wpAny_mono (ht.run [] s1 (start N vs) H _ (inv_start S room.hd e0 (len _ _ _ _ hsp) r x) hq) (fun flow s2 z => ?_) fun _ _ z => z
  cases flow with
  | ret u => obtain ⟨v, _, _, J, rv, q⟩ := z; exact done J rv q
  | next => obtain ⟨_, _, J, q⟩ := z; exact done (v := .non) (u := .none) J rfl q
  | brk => obtain ⟨_, _, _, q⟩ := z; exact q.elim
  | cont => obtain ⟨_, _, _, q⟩ := z; exact q.elim
theorem FnG.mono {T : CXT} {j k : Nat} {f : Addr} {fd : FuncData} {ps : List Str} {sp : Sp} (F : FnG P w K mg base T j f fd ps sp) (h : j ≤ k) : FnG P w K mg base T k f fd ps sp :=
  ⟨F.len, fun A out s H args us vs Q E g hr => F.run A out s H args us vs Q E g (hr.mono h)⟩
end
section
variable {X : Cx} {T : CXT} {k : Nat} {f : Addr} {fd : FuncData} {ps : List Str} {sp : Sp} {dvs : List V} {ds : List Value} {E : XK} {x : Str} {p pos : Pos} {e : Expr} {es : List Expr} {t : TA}
/-- f(e, ..) -/
theorem peG_call (F : FnG X.prog X.w X.K X.mg X.base T k f fd ps sp) (guard : X.A.guards = some []) (hr : Room k X.A) (hg : Gl X x) (hm : X.mg x = some (.ref f)) (hk : PySem.W.keepIn X.K (.ref f) = true) (hb : Binds X.K fd ps ds) (hd : Vals dvs ds)
    (hx : Passes T X E) (ha : PA X (e :: es) t) (hdb : (x == ("__debug__" : Str)) = false := by decide) (he : starEach (e :: es) X.env = (false, eval e X.env) :: starEach es X.env := by rfl) (hpl : (backTo pos (starEach es X.env)).any (·.1) = false := by rfl) :
    PE X (.Call (.Name x p) (e :: es) [] pos) (tCall sp dvs E t) := by
  constructor
  intro pins s σ H Q I h
  refine wpAny_Call_Name_kw (ld_glob I hg hm (PySem.W.callWith_K (h₀ := X.base) I.ok.mod.kin hk (thn (ha.run pos pins s σ H _ I h) fun us s1 z => ?_) he hpl) hdb)
  obtain ⟨vs, H1, I1, r, q⟩ := z
  refine ⟨I1.kIn, ?_⟩
  have r2 : Vals (vs ++ dvs) (us ++ ds) := r.append hd
  have hl : (us ++ ds).length = ps.length := r2.length.symm.trans (F.len _ _ _ _ q)
  refine wpAny_call (codeAny_mono (F.run X.A X.stack s1 H1 ⟨us, []⟩ (us ++ ds) (vs ++ dvs) Q E guard hr I1.env0 (hb s1 us I1.kIn hl) r2 q) fun r s2 z => ?_)
  match r, z with
  | .error v, z => exact hx pins σ H1 s1 v s2 I1 z
  | .ok (.ret u), z => exact I1.after z
  | .ok .next, z => exact (show False from z).elim
  | .ok .brk, z => exact (show False from z).elim
  | .ok .cont, z => exact (show False from z).elim
end
/-- the law's call from outside -/
theorem lawG {P : Program} {w : World} {K : PySem.W.Frag} {mg mb : Str → Option Value} {T : CXT} {k : Nat} {fa a : Addr} {fd : FuncData} {x : Str} {sp : Sp} {s1 : Shared} {vs : List Value} {ns : List Int}
    (KX : K.In s1.heap) (hns : s1.heap.Ns mainGlobals mg) (hb : s1.heap.Ns builtinsNs mb) (hbb : ∀ y : Str, y ≠ "__name__" → mb y = bootBuiltins y) (hlim : s1.heap.NoLimit) (hg : s1.gens = #[])
    (ha : s1.heap.get? a = some { cls := .type "list", data := .seq vs.toArray }) (hi : IntsAre vs ns) (hl : ns.length ≤ sizeLine) (hr : Room k callerA)
    (F : ∀ base : Heap, K.In base → base.Ns mainGlobals mg → FnG P w K mg base T k fa fd [x] sp) (bind : ∀ (s : Shared) (u : Value), BindsTo s fd ⟨[u], []⟩ [(x, u)])
    (hsp : ∀ H : Hp, Only H → SqL K H a (ns.map V.int) → sp [.ref a] H (fun v _ => v = .bl true) fun _ _ _ => False) (hT : ∀ H e s2, T [] H s1 (fun _ _ _ => False) e s2 → False) :
    codeAny (model P w) callerA (.call (.ref fa) ⟨[.ref a], []⟩) (fun r s2 => r = .ok (.ret (.bool true)) ∧ OldK s1.heap s2.heap ∧ s2.os = s1.os ∧ AllBare s2.gens) s1 := by
  -- what is tracked: the script, where the module doesn't hold it itself
  obtain ⟨H, only, seq, hok, just, free⟩ : ∃ H : Hp, Only H ∧ SqL K H a (ns.map V.int) ∧ HOk P w H s1.heap ∧ (∀ b, H b ≠ none → b = a) ∧ (H a ≠ none → K.lookup a = none) := by
    have rv := vals_ints hi
    cases hk : K.lookup a with
    | some o =>
      have e := KX a o hk
      rw [ha] at e
      cases e
      refine ⟨fun _ => none, fun _ => .inl rfl, .inr ⟨_, vs.toArray, _, hk, rfl, rfl, rfl, ?_, by simpa using rv⟩, fun b u z => (nomatch (show (none : Option HO) = some u from z)), fun b z => absurd rfl z, fun z => absurd rfl z⟩
      rw [List.size_toArray, hi.length]; exact hl
    | none =>
      refine ⟨upd (fun _ => none) a (.frz { cls := .type "list", data := .seq vs.toArray } (.lst (ns.map V.int))), fun b => ?_, .inl (.inr ⟨_, upd_same⟩), fun b u z => ?_, fun b z => ?_, fun _ => rfl⟩
      · rcases Decidable.em (b = a) with q | q
        · subst q; exact .inr ⟨_, _, upd_same⟩
        · exact .inl (upd_ne q)
      · rcases Decidable.em (b = a) with q | q
        · subst q
          rw [upd_same] at z
          cases z
          exact ⟨ha, by rw [List.length_map]; exact hl, vs, _, rv, ha⟩
        · rw [upd_ne q] at z; cases z
      · rcases Decidable.em (b = a) with q | q
        · exact q
        · exact absurd (upd_ne q) z
  have bare : ∀ {b : Addr} {o : Obj}, s1.heap.get? b = some o → (b = a → False) → (hidT s1.heap H).get? b = some o := fun {b o} e n => hidT_get e (by
    cases q : H b with
    | none => rfl
    | some u => exact (n (just b (by rw [q]; exact nofun))).elim)
  have names : ∀ {b : Addr} {m : Str → Option Value}, s1.heap.Ns b m → (hidT s1.heap H).Ns b m := fun {b m} z => by
    obtain ⟨o, es, ep, e, d, r⟩ := z
    exact ⟨o, es, ep, bare e (fun q => by subst q; rw [ha] at e; cases e; cases d), d, r⟩
  have kb : K.In (hidT s1.heap H) := fun b o e => by
    cases q : H b with
    | none => exact hidT_get (KX b o e) q
    | some u =>
      have eb := just b (by rw [q]; exact nofun)
      subst eb
      rw [free (by rw [q]; exact nofun)] at e
      cases e
  have hM : Mod K mg (hidT s1.heap H) := by
    obtain ⟨mc, h1, h2⟩ := hlim
    exact ⟨kb, names hns, ⟨mb, names hb, hbb⟩, mc, names h1, h2⟩
  have e0 : Env0 P w K mg (hidT s1.heap H) callerA [] s1 H :=
    { frames := rfl, mod := hM, bs := fun b o e => of_hidT e, bsz := Nat.le_of_eq (hidT_size _ _), funs := trivial, frf := fun b m => absurd (show b ∈ ([] : List Addr) from m) (by simp), hok := hok, bare := .of_eq hg }
  refine codeAny_mono ((F _ kb (names hns)).run callerA [] s1 H ⟨[.ref a], []⟩ [.ref a] [.ref a] _ _ rfl hr e0 (bind s1 (.ref a)) (.cons rfl .nil) (hsp H only seq)) fun r s2 z => ?_
  match r, z with
  | .error e, z => exact (hT H e s2 z).elim
  | .ok .next, z => exact (show False from z).elim
  | .ok .brk, z => exact (show False from z).elim
  | .ok .cont, z => exact (show False from z).elim
  | .ok (.ret u), z =>
    obtain ⟨v, H2, os, gens, un, hok2, rv, q⟩ := z
    cases (show v = .bl true from q)
    cases (show u = Value.bool true from rv)
    refine ⟨rfl, OldK.of_keep fun b o e => ?_, os, gens⟩
    rcases only b with q | ⟨ob, xs, q⟩
    · exact un.keep b o e q (fun m => absurd (show b ∈ ([] : List Addr) from m) (by simp)) (by simp)
    · have e1 := (hok b _ q).1
      rw [e] at e1
      cases e1
      exact (hok2 b _ (un.frzs b o _ q)).1
theorem walkG {l : PySem.W.OpenLaw} {n k : Nat} {q : Program} {loose : List Str} {XP : (Str → Option Value) → Heap → Prop} {YP : World → Heap → Prop} {d : DefRec} {K : Params → PySem.W.Frag} {T : World → CXT} {sp : World → Sp} {x : Str}
    (hn : l.most = some n) (hn2 : n ≤ sizeLine) (hdf : d.params.defaults = []) (hr : Room k callerA) (hY : ∀ (w : World) (h : Heap), YP w h → (K w.params).In h)
    (F : ∀ (w : World) (mg : Str → Option Value) (fa : Addr) (h : Heap), (K w.params).In h → h.Ns mainGlobals mg → mg d.name = some (.ref fa) → ∃ fd : FuncData, (∀ (s : Shared) (u : Value), BindsTo s fd ⟨[u], []⟩ [(x, u)]) ∧
        ∀ base : Heap, (K w.params).In base → base.Ns mainGlobals mg → FnG l.prog w (K w.params) mg base (T w) k fa fd [x] (sp w))
    (hsp : ∀ (w : World) (H : Hp) (a : Addr) (ns : List Int), ns.length ≤ n → Only H → SqL (K w.params) H a (ns.map V.int) → sp w [.ref a] H (fun v _ => v = .bl true) fun _ _ _ => False)
    (hT : ∀ (w : World) (H : Hp) (s : Shared) (e : Value) (s2 : Shared), T w [] H s (fun _ _ _ => False) e s2 → False) : PySem.W.WalkO q loose XP YP l.row.toRowW d [] (fun f vs => PySem.call f vs) :=
  Att.attach_call hn hdf fun w _ s1 _ _ _ _ _ _ _ a _ ns G Y _ _ _ named ob are few gen =>
    let ⟨_, hb, hF⟩ := F w _ _ _ (hY w _ Y) G.T.g named
    lawG (hY w _ Y) G.T.g G.T.b G.T.builtins G.T.nolimit gen ob are (Nat.le_trans few hn2) hr hF hb (fun H only seq => hsp w H a ns few only seq) fun H e s2 => hT w H s1 e s2
end RG

set_option Elab.async false
set_option linter.all false
set_option maxRecDepth 100000
set_option maxHeartbeats 4000000
namespace RG
open PySem PySem.Spec PyProof.Rows L2
section
variable {X : Cx}
/-! text * number -/
def repL (l : List Nat) (n : Nat) : List Nat := (List.replicate n l).flatten
def rRepS : R2 := fun x y H Q => ∃ (a : Str) (n : Nat), x = .str a ∧ y = .int (n : Nat) ∧ n ≤ 1000 ∧ a.length ≤ 1000 ∧ ∀ b : Str, b.cps.toList = repL a.cps.toList n → Q (.str b) H
theorem fold_app (l : List (Array Nat)) (acc : Array Nat) : (l.foldl (· ++ ·) acc).toList = acc.toList ++ (l.map Array.toList).flatten := by
  induction l generalizing acc with
  | nil => simp
  | cons a r ih => rw [List.foldl_cons, ih]; simp
theorem op_repS : OpR X (binaryOp .Mult) rRepS := by
  intro pins s σ H x y v u Q I rx ry h
  obtain ⟨a, n, rfl, rfl, hn, ha, q⟩ := h
  obtain ⟨t, rfl⟩ := rx
  obtain ⟨t', rfl⟩ := ry
  have hz : a.length * n ≤ 1000000 := by
    calc a.length * n ≤ 1000 * 1000 := Nat.mul_le_mul ha hn
      _ = 1000000 := by decide
  refine PySem.P.mul_str ?_ (fun _ _ => ?_) (fun _ _ => ?_) ?_
  · rw [decide_eq_false (by omega), decide_eq_false (by omega)]; rfl
  · have h1 : (1000 : Int) ≤ (2 ^ 63 - 1) / (n : Int) := by
      rcases Nat.eq_zero_or_pos n with e | e
      · omega
      · refine (Int.le_ediv_iff_mul_le (by omega)).mpr ?_
        have : (1000 : Int) * n ≤ 1000 * 1000 := by omega
        omega
    omega
  · unfold Builtin.Str.tooLong
    rw [sizeLine_eq]
    refine decide_eq_false ?_
    rw [Int.toNat_natCast]; omega
  · by_cases c1 : ((n : Nat) : Int) < 1
    · rw [if_pos c1]
      have e : n = 0 := by omega
      subst e
      exact ⟨by decide, ⟨.str Str.empty, H, I.tok _, ⟨_, rfl⟩, q Str.empty rfl⟩⟩
    · rw [if_neg c1]
      by_cases c2 : (((n : Nat) : Int) == 1 || a.length == 0) = true
      · rw [if_pos c2]
        refine ⟨.str a, H, I, ⟨_, rfl⟩, q a ?_⟩
        rcases Bool.or_eq_true_iff.mp c2 with z | z
        · have e : n = 1 := by have := eq_of_beq z; omega
          subst e
          simp [repL]
        · have e : a.cps.toList = [] := by
            have z1 : a.cps.size = 0 := eq_of_beq z
            exact List.eq_nil_of_length_eq_zero (by rw [Array.length_toList]; exact z1)
          rw [e]
          unfold repL
          induction n with
          | zero => rfl
          | succ m ih => simp
      · rw [if_neg c2]
        have tl : (⟨(List.replicate (Int.toNat (n : Nat)) a.cps).foldl (· ++ ·) #[]⟩ : Str).cps.toList = repL a.cps.toList n := by
          rw [fold_app, Int.toNat_natCast]
          simp [repL]
        refine ⟨?_, ⟨.str _, H, I.tok _, ⟨_, rfl⟩, q _ tl⟩⟩
        have : (⟨(List.replicate (Int.toNat (n : Nat)) a.cps).foldl (· ++ ·) #[]⟩ : Str).length = a.length * n := by
          show Array.size _ = _
          rw [← Array.length_toList, tl]
          simp [repL, Str.length, Nat.mul_comm]
        rw [this, sizeLine_eq]; omega
/-! l.extend(t), t a tuple -/
def rExtT (K : PySem.W.Frag) : V → List V → Hp → VK → Prop := fun x vs H Q => ∃ l b xs zs, x = .ref l ∧ vs = [.ref b] ∧ H l = some (.lst xs) ∧ SqT K H b zs ∧ xs.length + zs.length ≤ sizeLine ∧ Q .non (upd H l (.lst (xs ++ zs)))
theorem meets_ext (l : Addr) (items : Array Value) (n : Nat) (b : Addr) (more : Array Value) (n2 : Nat) (d : Option Addr) (sl : Array (Option Value)) (h0 : ¬(!items.isEmpty && Builtin.List.listTooLong (items.size + more.size)) = true) (h1 : items.size ≤ sizeLine) (h2 : items.size + more.size ≤ sizeLine + 1) :
    Meets (Builtin.«list.extend» ⟨[.ref l, .ref b], []⟩) (fun _ R s => s.heap.get? l = some { cls := .type "list", dict := none, data := .seq items n, slots := #[] } ∧ s.heap.get? b = some { cls := .type "tuple", dict := d, data := .seq more n2, slots := sl } ∧
      R (.ok (.ret Value.none)) { s with heap := s.heap.update l (Obj.mapSeq (fun xs => xs ++ more)) }) :=
  .of_wp fun prog w A R s h => by
    obtain ⟨hp, g, dr, tk, os⟩ := s
    obtain ⟨hl, hb, h⟩ := h
    have f1 := AutoSeq1.idx_int
    have f2 := AutoSeq1.sub_tuple_tuple
    have f3 := AutoSeq1.sub_list_list
    have f4 := AutoSeq1.sub_tuple_list
    have f5 := AutoSeq1.sub_list_tuple
    have hz : (items ++ more).size ≤ sizeLine + 1 := by rw [Array.size_append]; exact h2
    wp_walk using (wpAny_updateSeq hl rfl (hz := h1) (_hz' := hz)), wpAny_loadPart' hl, wpAny_loadPart' hb
    exact ⟨_, rfl, h⟩
theorem mt_extT : MtM X "list.extend" (rExtT X.K) := by
  intro pins s σ H x vs v us Q I rx rv h
  obtain ⟨l, b, xs, zs, rfl, rfl, hl, hb, hz, q⟩ := h
  cases rx
  obtain ⟨u, rfl, ru⟩ := rv.one
  cases ru
  obtain ⟨_, its, n, r, hl1, e⟩ := I.lstM hl
  obtain ⟨its2, r2, ⟨⟨oc, od, oda, osl⟩, ho, hc, n2, hda⟩, _⟩ := I.tuple hb
  cases hc
  cases hda
  have sz : its.toArray.size + its2.toArray.size ≤ sizeLine := by rw [List.size_toArray, List.size_toArray, ← r2.length]; omega
  have nl : ¬ (!its.toArray.isEmpty && Builtin.List.listTooLong (its.toArray.size + its2.toArray.size)) = true := by rw [notLongL sz, Bool.and_false]; exact Bool.false_ne_true
  refine call_meets F.slot_list_extend ⟨_, e, rfl⟩ F.entry_list_extend (F.args_list_extend_2 _ _) (meets_ext l its.toArray n b its2.toArray n2 od osl nl (by rw [List.size_toArray]; omega) (by omega)) ⟨e, ho, ?_⟩
  exact ⟨.non, _, I.lset (its' := its ++ its2) hl e (by simp) (r.append r2) (by rw [List.length_append]; omega), rfl, q⟩
/-! e.split(..), a token out -/
theorem pet_split {o e : Expr} {to te : TE} {apos pos : Pos} (ho : PET X o to) (he : PE X e te) (hs : starEach [e] X.env = [(false, eval e X.env)] := by rfl) (hbase : attributeBase o "split" X.env (eval o X.env) = eval o X.env := by rfl)
    (hline : (apos.endLine == pos.line) = true := by rfl) :
    PET X (.Call (.Attribute o "split" apos) [e] [] pos) (tM1 (fun x xs H Q => ∃ a b, x = .str a ∧ xs = [.str b] ∧ (b.length == 0) = false ∧ a.length + 2 ≤ sizeLine ∧ rNewStrs (Txt.split a b) H Q) to te) := by
  intro pins s σ H Q tok I h
  refine PySem.Call_method1 hbase hs hline (thn (ho pins s σ H _ tok I h) fun v s1 z => ?_)
  obtain ⟨x, H1, I1, r1, ⟨a, rfl⟩, q1⟩ := z
  have r1' := r1
  obtain ⟨t, rfl⟩ := r1'
  refine ⟨"str", _, F.plainAttrs_str, F.slot_str_split, F.type_str_split, typeIs_str _ _ _, (fun _ e => nomatch e), Calls.callWith_builtin rfl (Calls.evalArgs_plain (Calls.spliced_cons (thn (he.run pins s1 σ H1 _ I1 q1) fun u s2 z => ?_)))⟩
  obtain ⟨y, H2, I2, r2, q2⟩ := z
  exact Calls.spliced_nil (mt_split pins s2 σ H2 _ [y] _ [u] Q I2 r1 (.cons r2 .nil) q2)
/-! == and != of data, deeper -/
def rNeDD (K : PySem.W.Frag) : R2 := fun x y H Q => ∃ d e, Dp K H x d ∧ Dp K H y e ∧ (PyData.canLay0 d = true ∧ PyData.canLay0 e = true ∧ d.depth ≤ 150) ∧ Q (.bl (!PyData.eqv d e)) H
def rEqDD (K : PySem.W.Frag) : R2 := fun x y H Q => ∃ d e, Dp K H x d ∧ Dp K H y e ∧ (PyData.canLay0 d = true ∧ PyData.canLay0 e = true ∧ d.depth ≤ 150) ∧ Q (.bl (PyData.eqv d e)) H
theorem op_neDD {k : Nat} (hr : Room k X.A) : OpR X (compareOp .NotEq) (rNeDD X.K) := by
  intro pins s σ H x y v u Q I rx ry h
  obtain ⟨d, e, hd, he, ⟨cd, ce, dd⟩, q⟩ := h
  obtain ⟨as, r1⟩ := Dp.reads I d x v hd rx
  obtain ⟨bs, r2⟩ := Dp.reads I e y u he ry
  have hu := hr.un
  refine SeqAt.compareNe_reads r1 r2 cd ce ?_ ⟨.bl _, H, I, rfl, q⟩
  have := Nat.min_le_left d.depth e.depth
  omega
theorem op_eqDD {k : Nat} (hr : Room k X.A) : OpR X (compareOp .Eq) (rEqDD X.K) := by
  intro pins s σ H x y v u Q I rx ry h
  obtain ⟨d, e, hd, he, ⟨cd, ce, dd⟩, q⟩ := h
  obtain ⟨as, r1⟩ := Dp.reads I d x v hd rx
  obtain ⟨bs, r2⟩ := Dp.reads I e y u he ry
  have hu := hr.un
  refine SeqAt.compareEq_reads r1 r2 cd ce ?_ ⟨.bl _, H, I, rfl, q⟩
  have := Nat.min_le_left d.depth e.depth
  omega
/-! repr(x), x a tuple of data -/
def rRepr (K : PySem.W.Frag) : List V → Hp → VK → Prop := fun xs H Q => ∃ (a : Addr) (d : PyData), xs = [.ref a] ∧ Dp K H (.ref a) d ∧ d.showable = true ∧ d.hasDict = false ∧ d.depth ≤ 150 ∧ d.shown.length ≤ sizeLine ∧ Q (.str d.shown) H
theorem cr_repr {k : Nat} (guard : X.A.guards = some []) (hr : Room k X.A) : CallR X (.builtin "repr") (rRepr X.K) := by
  intro pins s σ H xs us Q I r h
  obtain ⟨a, d, rfl, hd, hs, hn, hdep, hz, q⟩ := h
  obtain ⟨u, rfl, ru⟩ := vals1 r
  cases ru
  obtain ⟨as, rd⟩ := Dp.reads I d _ _ hd rfl
  have hu := hr.un
  refine repr_of_reads' rd hs (fun z => by rw [hn] at z; cases z) guard (by omega) (fun _ _ z => z) (fun h1 tk t1 kp => ?_) hz
  exact ⟨.str d.shown, H, I.call' (s' := { s with heap := h1, toks := t1 }) (ch := []) rfl (Un.kept kp) (I.hok.kept kp) I.bare (fun _ z => nomatch z), ⟨_, rfl⟩, q⟩
end
end RG

set_option Elab.async false
set_option linter.all false
set_option maxRecDepth 100000
set_option maxHeartbeats 4000000
namespace K7
open PySem PySem.Spec PyProof.Rows L2 GX NdefX
theorem same_upd {H : Hp} {p : Addr} {o : HO} (h : H p = none) : Same H (upd H p o) := fun b x e => by
  rw [upd_ne (ne_of_none e h)]
  exact e
/-- a list or a tuple of ours -/
def Sq (H : Hp) (a : Addr) (xs : List V) : Prop := H a = some (.lst xs) ∨ H a = some (.tup xs)
theorem Sq.same {H H' : Hp} {a : Addr} {xs : List V} (s : Same H H') (h : Sq H a xs) : Sq H' a xs := h.elim (fun z => .inl (s _ _ z)) fun z => .inr (s _ _ z)
theorem sqL {K : PySem.W.Frag} {H : Hp} {a : Addr} {xs : List V} (h : H a = some (.lst xs)) : SqL K H a xs := .inl (.inl h)
theorem sqT {K : PySem.W.Frag} {H : Hp} {a : Addr} {xs : List V} (h : H a = some (.tup xs)) : SqT K H a xs := .inl (.inl h)
theorem Sq.lt {K : PySem.W.Frag} {H : Hp} {a : Addr} {xs : List V} (h : Sq H a xs) : SqL K H a xs ∨ SqT K H a xs := h.elim (fun z => .inl (sqL z)) fun z => .inr (sqT z)
theorem Sq.ty {K : PySem.W.Frag} {H : Hp} {a : Addr} {xs : List V} (h : Sq H a xs) : TyX K H (.ref a) (.type "list") ∨ TyX K H (.ref a) (.type "tuple") := h.elim (fun z => .inl (.base (.lst z))) fun z => .inr (.base (.tup z))
theorem new_ne {H : Hp} {a p : Addr} {o : HO} (h : H a = some o) (np : H p = none) : a ≠ p := ne_of_none h np
/-- a walk of a list or a tuple -/
def iSeq (K : PySem.W.Frag) (tl : TE) : TI := fun σ H R => tl σ H fun x H1 => ∃ a xs, x = .ref a ∧ ((SqL K H1 a xs ∧ R (Itl K a) H1) ∨ (SqT K H1 a xs ∧ R (Itt K a) H1))
theorem pi_seq {X : Cx} {tg l : Expr} {tl : TE} (hl : PE X l tl) : PI X tg l (iSeq X.K tl) := by
  refine ⟨fun pins s σ H R I h => ?_⟩
  refine thn (hl.run pins s σ H _ I h) fun v s1 ⟨x, H1, I1, r1, q1⟩ => ?_
  obtain ⟨a, xs, e, q⟩ := q1
  subst e
  cases r1
  rcases q with ⟨hq, q⟩ | ⟨hq, q⟩
  · obtain ⟨its, rv, p, hz⟩ := I1.list hq
    refine wpAny_pyIter_list p.isList ?_
    refine ⟨s1.heap.objs.size, [s1.heap.objs.size], _, _, H1, rfl, I1.kept (t' := s1.toks) fun b o e => Heap.get?_push_of_some _ e, turn_list a _, ⟨_, Heap.get?_push_size _ rfl, rfl, rfl⟩, fun b hb => ?_, q⟩
    have e : b = s1.heap.objs.size := by simpa using hb
    subst e
    exact I1.fpOk (Nat.le_refl _) (I1.hok.fresh (Nat.le_refl _))
  · obtain ⟨its, rv, p, hz⟩ := I1.tuple hq
    refine wpAny_pyIter_tuple (show s1.heap.IsTuple a its.toArray from p) ?_
    refine ⟨s1.heap.objs.size, [s1.heap.objs.size], _, _, H1, rfl, I1.kept (t' := s1.toks) fun b o e => Heap.get?_push_of_some _ e, turn_tuple a _, ⟨_, Heap.get?_push_size _ rfl, rfl, rfl⟩, fun b hb => ?_, q⟩
    have e : b = s1.heap.objs.size := by simpa using hb
    subst e
    exact I1.fpOk (Nat.le_refl _) (I1.hok.fresh (Nat.le_refl _))
def wholeV (l m : Int) : V → Bool
  | .int i => decide (l ≤ i) && decide (i ≤ m)
  | _ => false
def Scal (x : V) : Prop := x = .non ∨ (∃ i, x = .int i) ∨ ∃ z, x = .str z
theorem lcGen {J : It} {n : Nat} {g : TG} {tt : TT} {te : TE} {vs : List Nat} {σ : L2.St} {H1 : Hp} {D : Addr} {Qd : Hp → Prop} (keep : Nat → Bool) (vals : Nat → V) (nD : H1 D = none) (hn : n ≤ 4000)
    (go : ∀ i H, i < n → Same H1 H → J.go i H) (stop : ∀ H, Same H1 H → J.stop n H)
    (turn : ∀ i x H H' (Qk : VK) (Qn : Hp → Prop), i < n → Same H1 H → J.yld i H x H' → (∀ H4, Same H H4 → keep i = true → Qk (vals i) H4) → (∀ H4, Same H H4 → keep i = false → Qn H4) →
      g x (wipe σ vs) H' fun σ2 H2 => wipe σ2 vs = wipe σ vs ∧ tt σ2 H2 fun b H3 => if b = true then te σ2 H3 Qk else Qn H3)
    (done : ∀ H, Same H1 H → H D = some (.lst (((List.range n).filter keep).map vals)) → Qd H) :
    ∃ W : Nat → Nat → Hp → Prop, (∃ m, W 0 m (upd H1 D (.lst []))) ∧ ∀ i m H, W i m H →
      (J.stop i H ∧ Qd H) ∨ (J.go i H ∧ ∃ Nx : Hp → Prop, (∀ H', Nx H' → ∃ m', m' < m ∧ W (i + 1) m' H') ∧ ∀ x H', J.yld i H x H' → g x (wipe σ vs) H' fun σ2 H2 => wipe σ2 vs = wipe σ vs ∧ tt σ2 H2 fun b H3 =>
        if b = true then te σ2 H3 fun y H4 => ∃ acc, H4 D = some (.lst acc) ∧ acc.length < sizeLine ∧ Nx (upd H4 D (.lst (acc ++ [y]))) else Nx H3) := by
  refine ⟨fun i m H => m = n - i ∧ i ≤ n ∧ Same H1 H ∧ H D = some (.lst (((List.range i).filter keep).map vals)), ⟨n, rfl, Nat.zero_le _, same_upd nD, upd_same⟩, ?_⟩
  rintro i m H ⟨rfl, hi, sm, eD⟩
  by_cases hlt : i < n
  · refine .inr ⟨go i H hlt sm, fun H' => Same H1 H' ∧ H' D = some (.lst (((List.range (i + 1)).filter keep).map vals)), fun H' p => ⟨n - (i + 1), by omega, rfl, hlt, p.1, p.2⟩, fun x H' y => ?_⟩
    refine turn i x H H' _ _ hlt sm y (fun H4 s4 hk => ⟨_, s4 _ _ eD, ?_, ?_, ?_⟩) (fun H4 s4 hk => ⟨sm.trans s4, ?_⟩)
    · rw [List.length_map]
      have h1 := List.length_filter_le keep (List.range i)
      rw [List.length_range] at h1
      rw [sizeLine_eq]
      omega
    · exact fun b o e => by
        rw [upd_ne (ne_of_none e nD)]
        exact s4 _ _ (sm _ _ e)
    · rw [upd_same, List.range_succ, List.filter_append, List.map_append]
      simp [hk]
    · rw [s4 _ _ eD, List.range_succ, List.filter_append, List.map_append]
      simp [hk]
  · have e : i = n := by omega
    subst e
    exact .inl ⟨stop H sm, done H sm eD⟩
theorem lcMap {J : It} {n : Nat} {g : TG} {te : TE} {vs : List Nat} {σ : L2.St} {H1 : Hp} {D : Addr} {Qd : Hp → Prop} (vals : Nat → V) (nD : H1 D = none) (hn : n ≤ 4000)
    (go : ∀ i H, i < n → Same H1 H → J.go i H) (stop : ∀ H, Same H1 H → J.stop n H)
    (turn : ∀ i x H H' (Qk : VK) (Qn : Hp → Prop), i < n → Same H1 H → J.yld i H x H' → (∀ H4, Same H H4 → Qk (vals i) H4) → g x (wipe σ vs) H' fun σ2 H2 => wipe σ2 vs = wipe σ vs ∧ tYes σ2 H2 fun b H3 => if b = true then te σ2 H3 Qk else Qn H3)
    (done : ∀ H, Same H1 H → H D = some (.lst ((List.range n).map vals)) → Qd H) :
    ∃ W : Nat → Nat → Hp → Prop, (∃ m, W 0 m (upd H1 D (.lst []))) ∧ ∀ i m H, W i m H →
      (J.stop i H ∧ Qd H) ∨ (J.go i H ∧ ∃ Nx : Hp → Prop, (∀ H', Nx H' → ∃ m', m' < m ∧ W (i + 1) m' H') ∧ ∀ x H', J.yld i H x H' → g x (wipe σ vs) H' fun σ2 H2 => wipe σ2 vs = wipe σ vs ∧ tYes σ2 H2 fun b H3 =>
        if b = true then te σ2 H3 fun y H4 => ∃ acc, H4 D = some (.lst acc) ∧ acc.length < sizeLine ∧ Nx (upd H4 D (.lst (acc ++ [y]))) else Nx H3) :=
  lcGen (tt := tYes) (fun _ => true) vals nD hn go stop (fun i x H H' Qk Qn h1 h2 h3 h4 _ => turn i x H H' Qk Qn h1 h2 h3 fun H4 s4 => h4 H4 s4 rfl)
    (fun H s e => done H s (by rw [e, List.filter_eq_self.mpr (fun _ _ => rfl)]))
def LcR (J : It) (g : TG) (tt : TT) (te : TE) (vs : List Nat) (σ : L2.St) (H1 : Hp) (Q : VK) : Prop := ∀ D, H1 D = none → ∃ W : Nat → Nat → Hp → Prop, (∃ m, W 0 m (upd H1 D (.lst []))) ∧ ∀ i m H, W i m H →
  (J.stop i H ∧ Q (.ref D) H) ∨ (J.go i H ∧ ∃ Nx : Hp → Prop, (∀ H', Nx H' → ∃ m', m' < m ∧ W (i + 1) m' H') ∧ ∀ x H', J.yld i H x H' → g x (wipe σ vs) H' fun σ2 H2 => wipe σ2 vs = wipe σ vs ∧ tt σ2 H2 fun b H3 =>
    if b = true then te σ2 H3 fun y H4 => ∃ acc, H4 D = some (.lst acc) ∧ acc.length < sizeLine ∧ Nx (upd H4 D (.lst (acc ++ [y]))) else Nx H3)
theorem map_getD {α : Type} (f : V → α) (d : V) : ∀ xs : List V, (List.range xs.length).map (fun i => f (xs.getD i d)) = xs.map f
  | [] => rfl
  | x :: r => by
    rw [List.length_cons, List.range_succ_eq_map, List.map_cons, List.map_map, List.map_cons]
    exact congrArg (f x :: ·) (map_getD f d r)
theorem lcSeq {K : PySem.W.Frag} {a : Addr} {xs : List V} {g : TG} {te : TE} {vs : List Nat} {σ : L2.St} {H1 : Hp} {Q : VK} (vals : V → V) (hq : Sq H1 a xs) (hn : xs.length ≤ 4000)
    (turn : ∀ (i : Nat) (x : V) (H : Hp) (Qk : VK) (Qn : Hp → Prop), xs[i]? = some x → Same H1 H → (∀ H4, Same H H4 → Qk (vals x) H4) → g x (wipe σ vs) H fun σ2 H2 => wipe σ2 vs = wipe σ vs ∧ tYes σ2 H2 fun b H3 => if b = true then te σ2 H3 Qk else Qn H3)
    (done : ∀ D H, H1 D = none → Same H1 H → H D = some (.lst (xs.map vals)) → Q (.ref D) H) :
    (SqL K H1 a xs ∧ LcR (Itl K a) g tYes te vs σ H1 Q) ∨ (SqT K H1 a xs ∧ LcR (Itt K a) g tYes te vs σ H1 Q) := by
  have gd : ∀ {i : Nat} {x : V}, xs[i]? = some x → xs.getD i .non = x := fun {i x} h => by
    rw [List.getD_eq_getElem?_getD, h]
    rfl
  rcases hq with hq | hq
  · refine .inl ⟨sqL hq, fun D nD => lcMap (n := xs.length) (fun i => vals (xs.getD i .non)) nD hn (fun i H h s => ⟨xs, xs[i], sqL (s _ _ hq), List.getElem?_eq_getElem h⟩) (fun H s => ⟨xs, sqL (s _ _ hq), Nat.le_refl _⟩)
      (fun i x H H' Qk Qn h s y hk => ?_) (fun H s e => done D H nD s (by rw [e, map_getD]))⟩
    obtain ⟨rfl, y⟩ := y
    have hx := y xs (sqL (s _ _ hq))
    exact turn i x _ Qk Qn hx s fun H4 s4 => by
      have z := hk H4 s4
      rw [gd hx] at z
      exact z
  · refine .inr ⟨sqT hq, fun D nD => lcMap (n := xs.length) (fun i => vals (xs.getD i .non)) nD hn (fun i H h s => ⟨xs, xs[i], sqT (s _ _ hq), List.getElem?_eq_getElem h⟩) (fun H s => ⟨xs, sqT (s _ _ hq), Nat.le_refl _⟩)
      (fun i x H H' Qk Qn h s y hk => ?_) (fun H s e => done D H nD s (by rw [e, map_getD]))⟩
    obtain ⟨rfl, y⟩ := y
    have hx := y xs (sqT (s _ _ hq))
    exact turn i x _ Qk Qn hx s fun H4 s4 => by
      have z := hk H4 s4
      rw [gd hx] at z
      exact z
theorem PE.imp {X : Cx} {e : Expr} {t t' : TE} (h : PE X e t) (i : ∀ σ H Q, t' σ H Q → t σ H Q) : PE X e t' := ⟨fun pins s σ H Q I q => h.run pins s σ H Q I (i σ H Q q)⟩
theorem PS.imp {X : Cx} {e : Stmt} {t t' : TS} (h : PS X e t) (i : ∀ D σ H, t' D σ H → t D σ H) : PS X e t' := ⟨fun pins s σ H D I q => h.run pins s σ H D I (i D σ H q)⟩
theorem wipe1 (σ : L2.St) (c : Nat) (x : V) : (wipe σ [c]).set c (some x) = σ.set c (some x) := by
  show (σ.set c none).set c (some x) = _
  rw [List.set_set]
theorem wipe2 (σ : L2.St) (c : Nat) (x : V) : wipe (σ.set c (some x)) [c] = wipe σ [c] := by
  show (σ.set c (some x)).set c none = σ.set c none
  rw [List.set_set]
def tMapSeq (j c : Nat) (te : TE) : TE := fun σ H Q => ∃ (a : Addr) (xs : List V) (vals : V → V), σ[j]? = some (some (.ref a)) ∧ Sq H a xs ∧ xs.length ≤ 4000 ∧
  (∀ (i : Nat) (x : V) (H2 : Hp) (Qk : VK), xs[i]? = some x → Same H H2 → (∀ H4, Same H2 H4 → Qk (vals x) H4) → te (σ.set c (some x)) H2 Qk) ∧
  ∀ D H', H D = none → Same H H' → H' D = some (.lst (xs.map vals)) → Q (.ref D) H'
theorem tMapSeq_ok {K : PySem.W.Frag} {j c : Nat} {te : TE} {σ : L2.St} {H : Hp} {Q : VK} (h : tMapSeq j c te σ H Q) : tLc (iSeq K (tVar j)) (gName c) tYes te [c] σ H Q := by
  obtain ⟨a, xs, vals, hj, hq, hn, turn, done⟩ := h
  refine ⟨.ref a, hj, a, xs, rfl, lcSeq (g := gName c) (te := te) (vs := [c]) (σ := σ) (Q := Q) vals hq hn (fun i x H2 Qk Qn hx s hk => ?_) done⟩
  show wipe ((wipe σ [c]).set c (some x)) [c] = wipe σ [c] ∧ (if true = true then te ((wipe σ [c]).set c (some x)) H2 Qk else Qn H2)
  rw [wipe1, wipe2]
  exact ⟨rfl, iteT (turn i x H2 Qk hx s hk)⟩
theorem getD_of {xs : List V} {i : Nat} {x d : V} (h : xs[i]? = some x) : xs.getD i d = x := by
  rw [List.getD_eq_getElem?_getD, h]
  rfl
theorem dpInts {K : PySem.W.Frag} {H : Hp} : ∀ ns : List Int, DpAll K H (ns.map V.int) (ns.map PyData.int)
  | [] => .nil
  | i :: r => .cons (.int i) (dpInts r)
theorem canInts : ∀ ns : List Int, PyData.canLayAll0 (ns.map PyData.int) = true
  | [] => rfl
  | i :: r => by
    show (PyData.canLay0 (.int i) && PyData.canLayAll0 (r.map PyData.int)) = true
    rw [canInts r]
    rfl
theorem depInts : ∀ ns : List Int, PyData.depthAll (ns.map PyData.int) = 0
  | [] => rfl
  | i :: r => by
    show max 0 (PyData.depthAll (r.map PyData.int)) = 0
    rw [depInts r]
    rfl
theorem eqvInts : ∀ xs ys : List Int, PyData.eqvAll (xs.map PyData.int) (ys.map PyData.int) = decide (xs = ys)
  | [], [] => by simp [PyData.eqvAll]
  | [], _ :: _ => by simp [PyData.eqvAll]
  | _ :: _, [] => by simp [PyData.eqvAll]
  | x :: xs, y :: ys => by
    rw [List.map_cons, List.map_cons, PyData.eqvAll, eqvInts xs ys, PyData.eqv]
    by_cases h : x = y
    · subst h
      by_cases h2 : xs = ys <;> simp [h2]
    · simp [h]
theorem cut1 (xs : List V) : cutV xs (some 1) none = xs.tail := by
  unfold cutV
  rw [show (some (1 : Int)) = some ((1 : Nat) : Int) from rfl, HT.sIx_nat]
  show List.take (xs.length - min 1 xs.length) (List.drop (min 1 xs.length) xs) = _
  cases xs with
  | nil => rfl
  | cons x r =>
    rw [show min 1 (x :: r).length = 1 by rw [List.length_cons]; omega]
    show List.take (r.length + 1 - 1) r = r
    rw [List.take_of_length_le (by omega)]
theorem lenApp (a b : Str) : (a ++ b).length = a.length + b.length := Array.size_append
def Rai (E : XK) (C : Addr) (H : Hp) (fs : List (Str × V)) : Prop := ∀ d H', Same H H' → H' d = some (.xd fs) → E (.ref C) (some d) H'
theorem Rai.same {E : XK} {C : Addr} {H H1 : Hp} {fs : List (Str × V)} (h : Rai E C H fs) (s : Same H H1) : Rai E C H1 fs := fun d H' s' e => h d H' (s.trans s') e
theorem xsame {H1 : Hp} {a dx : Addr} {H2 : Hp} {o : HO} (na : H1 a = none) (nd : H1 dx = none) (k : ∀ b, b ≠ a → b ≠ dx → H2 b = H1 b) : Same H1 (upd (del H2 a) dx o) := fun b x e => by
  have h1 := ne_of_none e na
  have h2 := ne_of_none e nd
  rw [upd_ne h2, del_ne h1, k b h1 h2]
  exact e
def ForR (J : It) (g : TG) (tb : TS) (D : Ends) (σ : L2.St) (H : Hp) : Prop := ∃ W : Nat → Nat → L2.St → Hp → Prop, (∃ m, W 0 m σ H) ∧ ∀ i m σ H, W i m σ H →
  (J.stop i H ∧ D.nx σ H) ∨ (J.go i H ∧ ∃ N : L2.St → Hp → Prop, (∀ σ' H', N σ' H' → ∃ m', m' < m ∧ W (i + 1) m' σ' H') ∧ ∀ x H', J.yld i H x H' → g x σ H' fun σ2 H2 => tb { nx := N, rt := D.rt, bk := D.nx, ct := N } σ2 H2)
theorem forGen {J : It} {n : Nat} {g : TG} {tb : TS} {D : Ends} {σ : L2.St} {H : Hp} (Pv : Nat → L2.St → Hp → Prop) (h0 : Pv 0 σ H) (go : ∀ i σ H, i < n → Pv i σ H → J.go i H) (stop : ∀ σ H, Pv n σ H → J.stop n H)
    (turn : ∀ i x σ H H', i < n → Pv i σ H → J.yld i H x H' → g x σ H' fun σ2 H2 => tb { nx := Pv (i + 1), rt := D.rt, bk := D.nx, ct := Pv (i + 1) } σ2 H2) (done : ∀ σ H, Pv n σ H → D.nx σ H) : ForR J g tb D σ H := by
  refine ⟨fun i m σ H => m = n - i ∧ i ≤ n ∧ Pv i σ H, ⟨n, rfl, Nat.zero_le _, h0⟩, ?_⟩
  rintro i m σ H ⟨rfl, hi, p⟩
  by_cases hlt : i < n
  · exact .inr ⟨go i σ H hlt p, Pv (i + 1), fun σ' H' q => ⟨n - (i + 1), by omega, rfl, hlt, q⟩, fun x H' y => turn i x σ H H' hlt p y⟩
  · have e : i = n := by omega
    subst e
    exact .inl ⟨stop σ H p, done σ H p⟩
theorem forEnum {K : PySem.W.Frag} {a : Addr} {xs : List V} {g : TG} {tb : TS} {D : Ends} {σ : L2.St} {H : Hp} (Pv : Nat → L2.St → Hp → Prop) (hq : Sq H a xs) (h0 : Pv 0 σ H) (hl : ∀ i σ H' o, Pv i σ H' → H a = some o → H' a = some o)
    (turn : ∀ i x T σ H, xs[i]? = some x → Pv i σ H → H T = none → g (.ref T) σ (upd H T (.tup [.int (i : Nat), x])) fun σ2 H2 => tb { nx := Pv (i + 1), rt := D.rt, bk := D.nx, ct := Pv (i + 1) } σ2 H2) (done : ∀ σ H, Pv xs.length σ H → D.nx σ H) :
    (SqL K H a xs ∧ ForR (Ite K a) g tb D σ H) ∨ (SqT K H a xs ∧ ForR (IteT K a) g tb D σ H) := by
  rcases hq with hq | hq
  · refine .inl ⟨sqL hq, forGen (n := xs.length) Pv h0 (fun i σ H h p => ⟨xs, xs[i], sqL (hl _ _ _ _ p hq), List.getElem?_eq_getElem h⟩) (fun σ H p => ⟨xs, sqL (hl _ _ _ _ p hq), Nat.le_refl _⟩) (fun i x σ H H' hi p y => ?_) done⟩
    obtain ⟨T, x, rfl, nT, rfl, hx⟩ := y
    exact turn i x T σ H (hx xs (sqL (hl _ _ _ _ p hq))) p nT
  · refine .inr ⟨sqT hq, forGen (n := xs.length) Pv h0 (fun i σ H h p => ⟨xs, xs[i], sqT (hl _ _ _ _ p hq), List.getElem?_eq_getElem h⟩) (fun σ H p => ⟨xs, sqT (hl _ _ _ _ p hq), rfl⟩) (fun i x σ H H' hi p y => ?_) done⟩
    obtain ⟨T, x, rfl, nT, rfl, hx⟩ := y
    exact turn i x T σ H (hx xs (sqT (hl _ _ _ _ p hq))) p nT
theorem paired_get {α β : Type} {F : α → β → Prop} {xs : List α} {ys : List β} (p : Paired F xs ys) : ∀ {i : Nat} {x : α}, xs[i]? = some x → ∃ y, ys[i]? = some y ∧ F x y := by
  induction p with
  | nil => intro i x h; simp at h
  | cons f r ih =>
    intro i x h
    cases i with
    | zero =>
      simp at h
      subst h
      exact ⟨_, rfl, f⟩
    | succ i => exact ih h
theorem paired_imp {α β : Type} {F G : α → β → Prop} (k : ∀ x y, F x y → G x y) : ∀ {xs : List α} {ys : List β}, Paired F xs ys → Paired G xs ys
  | _, _, .nil => .nil
  | _, _, .cons f r => .cons (k _ _ f) (paired_imp k r)
theorem drop_get {α : Type} {xs : List α} {i : Nat} {x : α} (h : xs[i]? = some x) : xs.drop i = x :: xs.drop (i + 1) := by
  obtain ⟨hi, rfl⟩ := List.getElem?_eq_some_iff.mp h
  exact List.drop_eq_getElem_cons hi
theorem take_get {α : Type} {xs : List α} {i : Nat} {x : α} (h : xs[i]? = some x) : xs.take (i + 1) = xs.take i ++ [x] := by
  rw [List.take_succ, h]
  rfl
def nts (ns : List Nat) : List V := ns.map fun (n : Nat) => V.int (n : Int)
theorem nts_len (l : List Nat) : (nts l).length = l.length := List.length_map _
def PairsAt (H : Hp) (ts : List V) (ps : List (Nat × Nat)) : Prop := Paired (fun t (p : Nat × Nat) => ∃ T, t = .ref T ∧ H T = some (.tup [.int (p.1 : Nat), .int (p.2 : Nat)])) ts ps
theorem PairsAt.same {H H' : Hp} {ts : List V} {ps : List (Nat × Nat)} (h : PairsAt H ts ps) (s : Same H H') : PairsAt H' ts ps := paired_imp (fun _ _ ⟨T, e, h⟩ => ⟨T, e, s _ _ h⟩) h
theorem paired_snoc {α β : Type} {F : α → β → Prop} {xs : List α} {ys : List β} {x : α} {y : β} (p : Paired F xs ys) (f : F x y) : Paired F (xs ++ [x]) (ys ++ [y]) := by
  induction p with
  | nil => exact .cons f .nil
  | cons g r ih => exact .cons g ih
def leP (p q : Nat × Nat) : Bool := decide (p.1 < q.1 ∨ (p.1 = q.1 ∧ p.2 ≤ q.2))
def sortP (l : List (Nat × Nat)) : List (Nat × Nat) := l.mergeSort leP
theorem leP_trans (a b c : Nat × Nat) (h1 : leP a b = true) (h2 : leP b c = true) : leP a c = true := by
  unfold leP at *
  rw [decide_eq_true_iff] at *
  omega
theorem leP_total (a b : Nat × Nat) : (leP a b || leP b a) = true := by
  unfold leP
  rw [Bool.or_eq_true, decide_eq_true_iff, decide_eq_true_iff]
  omega
theorem leP_anti {a b : Nat × Nat} (h1 : leP a b = true) (h2 : leP b a = true) : a = b := by
  unfold leP at *
  rw [decide_eq_true_iff] at *
  exact Prod.ext (by omega) (by omega)
theorem sortP_perm (l : List (Nat × Nat)) : (sortP l).Perm l := List.mergeSort_perm l leP
theorem sortP_sorted (l : List (Nat × Nat)) : (sortP l).Pairwise fun a b => leP a b = true := List.pairwise_mergeSort leP_trans leP_total l
theorem sortP_eq {l m : List (Nat × Nat)} (p : m.Perm l) (s : m.Pairwise fun a b => leP a b = true) : m = sortP l :=
  List.Perm.eq_of_pairwise (fun a b _ _ h1 h2 => leP_anti h1 h2) s (sortP_sorted l) (p.trans (sortP_perm l).symm)
def kOf (H : Hp) : V → Int × Int
  | .ref T => match H T with
    | some (.tup [.int i, .int j]) => (i, j)
    | _ => (0, 0)
  | _ => (0, 0)
def kNat (H : Hp) (x : V) : Nat × Nat := ((kOf H x).1.toNat, (kOf H x).2.toNat)
theorem kOf_pair {H : Hp} {T : Addr} {i j : Int} (h : H T = some (.tup [.int i, .int j])) : kOf H (.ref T) = (i, j) := by
  simp only [kOf, h]
theorem pairs_map {H : Hp} {ts : List V} {ps : List (Nat × Nat)} (p : PairsAt H ts ps) : ps = ts.map (kNat H) := by
  induction p with
  | nil => rfl
  | cons f r ih =>
    obtain ⟨T, rfl, h⟩ := f
    rw [List.map_cons, ← ih]
    refine congrArg (· :: _) ?_
    unfold kNat
    rw [kOf_pair h]
    rfl
theorem pairs_mem {H : Hp} {ts : List V} {ps : List (Nat × Nat)} (p : PairsAt H ts ps) : ∀ x ∈ ts, ∃ T, x = .ref T ∧ H T = some (.tup [.int ((kNat H x).1 : Nat), .int ((kNat H x).2 : Nat)]) := by
  induction p with
  | nil => exact fun x h => absurd h (by simp)
  | cons f r ih =>
    intro x hx
    rcases List.mem_cons.mp hx with e | hx
    · obtain ⟨T, e2, h⟩ := f
      subst e2
      subst e
      refine ⟨T, rfl, ?_⟩
      unfold kNat
      rw [kOf_pair h]
      exact h
    · exact ih x hx
theorem paired_self {α β : Type} {F : α → β → Prop} {f : α → β} : ∀ {xs : List α}, (∀ x ∈ xs, F x (f x)) → Paired F xs (xs.map f)
  | [], _ => .nil
  | x :: r, h => .cons (h x List.mem_cons_self) (paired_self fun y hy => h y (List.mem_cons_of_mem _ hy))
theorem sorted_pairs {H : Hp} {xs ys : List V} {ps : List (Nat × Nat)} (p : PairsAt H xs ps) (st : SrtO.Srtd (ltP (kOf H)) ys) (sb : SrtO.Stb (ltP (kOf H)) ys xs) : PairsAt H ys (sortP ps) := by
  have hm := pairs_mem p
  have hy : ∀ y ∈ ys, ∃ T, y = .ref T ∧ H T = some (.tup [.int ((kNat H y).1 : Nat), .int ((kNat H y).2 : Nat)]) := fun y h => hm y (sb.perm.mem_iff.mp h)
  have e : ys.map (kNat H) = sortP ps := by
    refine sortP_eq ?_ ?_
    · rw [pairs_map p]
      exact sb.perm.map _
    · rw [List.pairwise_map]
      refine (List.Pairwise.and_mem.mp st).imp fun h => ?_
      obtain ⟨ha, hb, hlt⟩ := h
      obtain ⟨T, rfl, h1⟩ := hy _ ha
      obtain ⟨U, rfl, h2⟩ := hy _ hb
      have h1 := kOf_pair h1
      have h2 := kOf_pair h2
      unfold ltP SrtO.lexB at hlt
      rw [h1, h2] at hlt
      unfold leP
      rw [decide_eq_true_iff]
      simp at hlt
      split at hlt <;> omega
  rw [← e]
  exact paired_self hy
theorem rIx_sq {K : PySem.W.Frag} {H : Hp} {a : Addr} {xs : List V} {i : Nat} {k : Int} {x : V} {Q : VK} (h : Sq H a xs) (hk : k = (i : Int)) (hx : xs[i]? = some x) (q : Q x H) : rIx K (.ref a) (.int k) H Q := by
  subst hk
  rcases h with h | h
  · exact .inl ⟨a, xs, _, x, rfl, rfl, sqL h, atI_nat hx, q⟩
  · exact .inr (.inl ⟨a, xs, _, x, rfl, rfl, sqT h, atI_nat hx, q⟩)
theorem iteFq {b : Bool} {A B : Prop} (h : b = false) (x : B) : if b = true then A else B := by
  subst h
  exact x
theorem iteTq {b : Bool} {A B : Prop} (h : b = true) (x : A) : if b = true then A else B := by
  subst h
  exact x
theorem forSeq {K : PySem.W.Frag} {a : Addr} {xs : List V} {g : TG} {tb : TS} {D : Ends} {σ : L2.St} {H : Hp} (Pv : Nat → L2.St → Hp → Prop) (hq : Sq H a xs) (h0 : Pv 0 σ H) (hl : ∀ i σ H' o, Pv i σ H' → H a = some o → H' a = some o)
    (turn : ∀ i x σ H, xs[i]? = some x → Pv i σ H → g x σ H fun σ2 H2 => tb { nx := Pv (i + 1), rt := D.rt, bk := D.nx, ct := Pv (i + 1) } σ2 H2) (done : ∀ σ H, Pv xs.length σ H → D.nx σ H) :
    (SqL K H a xs ∧ ForR (Itl K a) g tb D σ H) ∨ (SqT K H a xs ∧ ForR (Itt K a) g tb D σ H) := by
  rcases hq with hq | hq
  · exact .inl ⟨sqL hq, for_list (K := K) (xs := xs) Pv h0 (fun i σ H' _ p => sqL (hl _ _ _ _ p hq)) turn done⟩
  · exact .inr ⟨sqT hq, for_tup (K := K) (xs := xs) Pv h0 (fun i σ H' _ p => sqT (hl _ _ _ _ p hq)) turn done⟩
theorem lenV_sq {K : PySem.W.Frag} {H : Hp} {a : Addr} {xs : List V} {n : Nat} (h : Sq H a xs) (e : xs.length = n) : LenV K (.ref a) H n := h.elim (fun z => .inl ⟨_, sqL z, e.symm⟩) fun z => .inr ⟨_, sqT z, e.symm⟩
theorem none_of_same {H H' : Hp} {l : Addr} (s : Same H H') (n : H' l = none) : H l = none := by
  cases e : H l with
  | none => rfl
  | some o =>
    rw [s _ _ e] at n
    cases n
theorem range_map_get {α : Type} (l : List α) (d : α) : (List.range l.length).map (fun i => l.getD i d) = l := by
  refine List.ext_getElem (by rw [List.length_map, List.length_range]) fun i h1 h2 => ?_
  rw [List.getElem_map, List.getElem_range, List.getD_eq_getElem?_getD, List.getElem?_eq_getElem h2]
  rfl
theorem getD_at {α : Type} {l : List α} {i : Nat} {x d : α} (h : l[i]? = some x) : l.getD i d = x := by
  rw [List.getD_eq_getElem?_getD, h]
  rfl
def TupT (H : Hp) (x : V) (vs : List V) : Prop := ∃ a, x = .ref a ∧ H a = some (.tup vs)
theorem TupT.same {H H' : Hp} {x : V} {vs : List V} (s : Same H H') (h : TupT H x vs) : TupT H' x vs := by
  obtain ⟨a, e, q⟩ := h
  exact ⟨a, e, s _ _ q⟩
def TupsT (H : Hp) (ts : List V) (ls : List (List V)) : Prop := Paired (TupT H) ts ls
theorem TupsT.same {H H' : Hp} {ts : List V} {ls : List (List V)} (s : Same H H') (h : TupsT H ts ls) : TupsT H' ts ls := paired_imp (fun _ _ h => h.same s) h
theorem tups_upd {H : Hp} {D : Addr} {o : HO} {ts us : List V} {l : List (List V)} (eD : H D = some (.lst us)) (p : TupsT H ts l) : TupsT (upd H D o) ts l := paired_imp (fun x c ⟨a, e, h⟩ => ⟨a, e, by rw [upd_ne (fun z => by rw [z, eD] at h; cases h)]; exact h⟩) p
theorem tup_upd {H : Hp} {D : Addr} {o : HO} {x : V} {us c : List V} (eD : H D = some (.lst us)) (p : TupT H x c) : TupT (upd H D o) x c := by
  obtain ⟨a, e, h⟩ := p
  exact ⟨a, e, by rw [upd_ne (fun z => by rw [z, eD] at h; cases h)]; exact h⟩
theorem lcTupK {J : It} {n : Nat} {g : TG} {tt : TT} {te : TE} {vs : List Nat} {σ : L2.St} {H1 : Hp} {D : Addr} {Qd : Hp → Prop} (keep : Nat → Bool) (cs : Nat → List V) (nD : H1 D = none) (hn : n ≤ 4000) (go : ∀ i H, i < n → Same H1 H → J.go i H) (stop : ∀ H, Same H1 H → J.stop n H)
    (turn : ∀ i x H H' (Qk : VK) (Qn : Hp → Prop), i < n → Same H1 H → J.yld i H x H' → (∀ y H4, keep i = true → TupT H4 y (cs i) → Same H H4 → Qk y H4) → (∀ H4, keep i = false → Same H H4 → Qn H4) → g x (wipe σ vs) H' fun σ2 H2 => wipe σ2 vs = wipe σ vs ∧ tt σ2 H2 fun b H3 => if b = true then te σ2 H3 Qk else Qn H3)
    (done : ∀ H ts, Same H1 H → H D = some (.lst ts) → TupsT H ts (((List.range n).filter keep).map cs) → Qd H) :
    ∃ W : Nat → Nat → Hp → Prop, (∃ m, W 0 m (upd H1 D (.lst []))) ∧ ∀ i m H, W i m H →
      (J.stop i H ∧ Qd H) ∨ (J.go i H ∧ ∃ Nx : Hp → Prop, (∀ H', Nx H' → ∃ m', m' < m ∧ W (i + 1) m' H') ∧ ∀ x H', J.yld i H x H' → g x (wipe σ vs) H' fun σ2 H2 => wipe σ2 vs = wipe σ vs ∧ tt σ2 H2 fun b H3 =>
        if b = true then te σ2 H3 fun y H4 => ∃ acc, H4 D = some (.lst acc) ∧ acc.length < sizeLine ∧ Nx (upd H4 D (.lst (acc ++ [y]))) else Nx H3) := by
  refine ⟨fun i m H => m = n - i ∧ i ≤ n ∧ Same H1 H ∧ ∃ ts, H D = some (.lst ts) ∧ TupsT H ts (((List.range i).filter keep).map cs), ⟨n, rfl, Nat.zero_le _, same_upd nD, [], upd_same, .nil⟩, ?_⟩
  rintro i m H ⟨rfl, hi, sm, ts, eD, pt⟩
  by_cases hlt : i < n
  · refine .inr ⟨go i H hlt sm, fun H' => Same H1 H' ∧ ∃ ts, H' D = some (.lst ts) ∧ TupsT H' ts (((List.range (i + 1)).filter keep).map cs), fun H' p => ⟨n - (i + 1), by omega, rfl, hlt, p.1, p.2⟩, fun x H' y => ?_⟩
    refine turn i x H H' _ _ hlt sm y (fun y H4 hk eT s4 => ⟨ts, s4 _ _ eD, ?_, fun b o e => ?_, _, upd_same, ?_⟩) (fun H4 hk s4 => ⟨sm.trans s4, ts, s4 _ _ eD, ?_⟩)
    · have h1 := pt.length
      have h2 := List.length_filter_le keep (List.range i)
      rw [List.length_map] at h1
      rw [List.length_range] at h2
      rw [sizeLine_eq]
      omega
    · rw [upd_ne (ne_of_none e nD)]
      exact s4 _ _ (sm _ _ e)
    · rw [List.range_succ, List.filter_append, List.filter_cons_of_pos hk, List.map_append]
      exact paired_snoc (tups_upd (s4 _ _ eD) (pt.same s4)) (tup_upd (s4 _ _ eD) eT)
    · rw [List.range_succ, List.filter_append, List.filter_cons_of_neg (by rw [hk]; exact Bool.false_ne_true), List.filter_nil, List.append_nil]
      exact pt.same s4
  · have e : i = n := by omega
    subst e
    exact .inl ⟨stop H sm, done H ts sm eD pt⟩
theorem tups_got {H : Hp} {ts : List V} {ls : List (List V)} (p : TupsT H ts ls) {i : Nat} {x : V} (h : ts[i]? = some x) : ∃ vs a, ls[i]? = some vs ∧ x = .ref a ∧ H a = some (.tup vs) := by
  obtain ⟨vs, hv, a, e, ha⟩ := paired_get p h
  exact ⟨vs, a, hv, e, ha⟩
theorem cut_to (xs : List V) (m : Nat) : cutV xs none (some (m : Int)) = xs.take m := by
  unfold cutV
  rw [HT.sIx_nat, show HT.sIx xs.length 0 none = 0 from rfl, Nat.sub_zero, List.drop_zero]
  by_cases h : m ≤ xs.length
  · rw [Nat.min_eq_left h]
  · rw [Nat.min_eq_right (by omega), List.take_of_length_le (Nat.le_refl _), List.take_of_length_le (by omega)]
theorem cut_from (xs : List V) (m : Nat) : cutV xs (some (m : Int)) none = xs.drop m := by
  unfold cutV
  rw [HT.sIx_nat, show HT.sIx xs.length xs.length none = xs.length from rfl]
  by_cases h : m ≤ xs.length
  · rw [Nat.min_eq_left h, List.take_of_length_le (by rw [List.length_drop]; exact Nat.le_refl _)]
  · rw [Nat.min_eq_right (by omega), List.drop_eq_nil_of_le (Nat.le_refl _), List.drop_eq_nil_of_le (show xs.length ≤ m by omega), List.take_nil]
theorem slA {K : PySem.W.Frag} {H : Hp} {a : Addr} {xs : List V} {lo hi : Option Int} {Q : VK} (h : H a = some (.tup xs)) (q : ∀ p H', Same H H' → H' p = some (.tup (cutV xs lo hi)) → Q (.ref p) H') : rSlA K (.ref a) lo hi H Q := by
  refine ⟨a, xs, rfl, sqT h, fun z => q a H (Same.refl _) ?_, fun _ p np => q p _ (same_upd np) upd_same⟩
  rw [h]
  unfold cutV
  rw [z.1, z.2, List.drop_zero, Nat.sub_zero, List.take_of_length_le (Nat.le_refl _)]
theorem catA {K : PySem.W.Frag} {H : Hp} {a b : Addr} {xs ys : List V} {Q : VK} (ha : H a = some (.tup xs)) (hb : H b = some (.tup ys)) (hl : xs.length + ys.length ≤ 1000) (q : ∀ p H', Same H H' → H' p = some (.tup (xs ++ ys)) → Q (.ref p) H') : rCatA K (.ref a) (.ref b) H Q := by
  refine ⟨a, b, xs, ys, rfl, rfl, sqT ha, sqT hb, by rw [sizeLine_eq]; omega, fun z => q b H (Same.refl _) ?_, fun _ z => q a H (Same.refl _) ?_, fun _ _ p np => q p _ (same_upd np) upd_same⟩
  · rw [hb, z, List.nil_append]
  · rw [ha, z, List.append_nil]
theorem paired_take {α β : Type} {F : α → β → Prop} {xs : List α} {ys : List β} (p : Paired F xs ys) : ∀ k, Paired F (xs.take k) (ys.take k) ∧ Paired F (xs.drop k) (ys.drop k) := by
  induction p with
  | nil => intro k; rw [List.take_nil, List.take_nil, List.drop_nil, List.drop_nil]; exact ⟨.nil, .nil⟩
  | cons f r ih =>
    intro k
    cases k with
    | zero => exact ⟨.nil, .cons f r⟩
    | succ k => exact ⟨.cons f (ih k).1, (ih k).2⟩
theorem paired_app {α β : Type} {F : α → β → Prop} {xs xs' : List α} {ys ys' : List β} (p : Paired F xs ys) (q : Paired F xs' ys') : Paired F (xs ++ xs') (ys ++ ys') := by
  induction p with
  | nil => exact q
  | cons f _ ih => exact .cons f ih
theorem lcPred {J : It} {n : Nat} {g : TG} {tt : TT} {te : TE} {vs : List Nat} {σ : L2.St} {H1 : Hp} {D : Addr} {Qd : Hp → Prop} (keep : Nat → Bool) (T : Nat → Hp → V → Prop) (hst : ∀ i H H' x, Same H H' → T i H x → T i H' x) (hup : ∀ i H x us ys, H D = some (.lst us) → T i H x → T i (upd H D (.lst ys)) x)
    (nD : H1 D = none) (hn : n ≤ 4000) (go : ∀ i H, i < n → Same H1 H → J.go i H) (stop : ∀ H, Same H1 H → J.stop n H)
    (turn : ∀ i x H H' (Qk : VK) (Qn : Hp → Prop), i < n → Same H1 H → (∃ us, H D = some (.lst us)) → J.yld i H x H' → (∀ y H4, keep i = true → T i H4 y → Same H H4 → Qk y H4) → (∀ H4, keep i = false → Same H H4 → Qn H4) → g x (wipe σ vs) H' fun σ2 H2 => wipe σ2 vs = wipe σ vs ∧ tt σ2 H2 fun b H3 => if b = true then te σ2 H3 Qk else Qn H3)
    (done : ∀ H ts, Same H1 H → H D = some (.lst ts) → Paired (fun x i => T i H x) ts ((List.range n).filter keep) → Qd H) :
    ∃ W : Nat → Nat → Hp → Prop, (∃ m, W 0 m (upd H1 D (.lst []))) ∧ ∀ i m H, W i m H →
      (J.stop i H ∧ Qd H) ∨ (J.go i H ∧ ∃ Nx : Hp → Prop, (∀ H', Nx H' → ∃ m', m' < m ∧ W (i + 1) m' H') ∧ ∀ x H', J.yld i H x H' → g x (wipe σ vs) H' fun σ2 H2 => wipe σ2 vs = wipe σ vs ∧ tt σ2 H2 fun b H3 =>
        if b = true then te σ2 H3 fun y H4 => ∃ acc, H4 D = some (.lst acc) ∧ acc.length < sizeLine ∧ Nx (upd H4 D (.lst (acc ++ [y]))) else Nx H3) := by
  refine ⟨fun i m H => m = n - i ∧ i ≤ n ∧ Same H1 H ∧ ∃ ts, H D = some (.lst ts) ∧ Paired (fun x i => T i H x) ts ((List.range i).filter keep), ⟨n, rfl, Nat.zero_le _, same_upd nD, [], upd_same, .nil⟩, ?_⟩
  rintro i m H ⟨rfl, hi, sm, ts, eD, pt⟩
  by_cases hlt : i < n
  · refine .inr ⟨go i H hlt sm, fun H' => Same H1 H' ∧ ∃ ts, H' D = some (.lst ts) ∧ Paired (fun x i => T i H' x) ts ((List.range (i + 1)).filter keep), fun H' p => ⟨n - (i + 1), by omega, rfl, hlt, p.1, p.2⟩, fun x H' y => ?_⟩
    refine turn i x H H' _ _ hlt sm ⟨ts, eD⟩ y (fun y H4 hk eT s4 => ⟨ts, s4 _ _ eD, ?_, fun b o e => ?_, _, upd_same, ?_⟩) (fun H4 hk s4 => ⟨sm.trans s4, ts, s4 _ _ eD, ?_⟩)
    · have h1 := pt.length
      have h2 := List.length_filter_le keep (List.range i)
      rw [List.length_range] at h2
      rw [sizeLine_eq]
      omega
    · rw [upd_ne (ne_of_none e nD)]
      exact s4 _ _ (sm _ _ e)
    · rw [List.range_succ, List.filter_append, List.filter_cons_of_pos hk]
      exact paired_snoc (paired_imp (fun x i h => hup i _ x _ _ (s4 _ _ eD) (hst i _ _ x s4 h)) pt) (hup i _ y _ _ (s4 _ _ eD) eT)
    · rw [List.range_succ, List.filter_append, List.filter_cons_of_neg (by rw [hk]; exact Bool.false_ne_true), List.filter_nil, List.append_nil]
      exact paired_imp (fun x i h => hst i _ _ x s4 h) pt
  · have e : i = n := by omega
    subst e
    exact .inl ⟨stop H sm, done H ts sm eD pt⟩
theorem paired_map {α β γ : Type} {F : α → γ → Prop} {g : β → γ} {xs : List α} {ys : List β} (p : Paired (fun x y => F x (g y)) xs ys) : Paired F xs (ys.map g) := by
  induction p with
  | nil => exact .nil
  | cons f _ ih => exact .cons f ih
theorem nts_snoc (l : List Nat) {x : Int} (h : 0 ≤ x) : nts l ++ [.int x] = nts (l ++ [x.toNat]) := by
  unfold nts
  rw [List.map_append, List.map_singleton, Int.toNat_of_nonneg h]
theorem fmod_nn {a b : Int} (ha : 0 ≤ a) (hb : 0 < b) : 0 ≤ a.fmod b ∧ a.fmod b < b := ⟨Int.fmod_nonneg_of_pos a hb, Int.fmod_lt_of_pos a hb⟩
theorem fdiv_nn {a b : Int} (ha : 0 ≤ a) (hb : 0 < b) : 0 ≤ a.fdiv b ∧ a.fdiv b ≤ a := by
  rw [Int.fdiv_eq_ediv_of_nonneg a (by omega)]
  exact ⟨Int.ediv_nonneg ha (by omega), Int.ediv_le_self b ha⟩
def NumsAt (H : Hp) (a : Addr) : Prop := ∃ l : List Nat, H a = some (.lst (nts l)) ∧ l.length ≤ 4000
def SameB (a : Addr) (H H' : Hp) : Prop := ∀ b o, b ≠ a → H b = some o → H' b = some o
theorem SameB.trans {a : Addr} {H1 H2 H3 : Hp} (h : SameB a H1 H2) (k : SameB a H2 H3) : SameB a H1 H3 := fun b o n e => k b o n (h b o n e)
theorem SameB.refl {a : Addr} {H : Hp} : SameB a H H := fun _ _ _ e => e
theorem sameB_of {a : Addr} {H1 H2 : Hp} (h : Same H1 H2) : SameB a H1 H2 := fun b o _ e => h b o e
theorem NumsAt.same {H H' : Hp} {a : Addr} (h : NumsAt H a) (s : Same H H') : NumsAt H' a := by
  obtain ⟨l, e, n⟩ := h
  exact ⟨l, s _ _ e, n⟩
theorem nums_ne {H : Hp} {a l : Addr} (n : NumsAt H a) (h : H l = none) : l ≠ a := fun z => by
  obtain ⟨x, e, _⟩ := n
  rw [z, e] at h
  cases h
theorem none_of_b {a l : Addr} {H H' : Hp} (s : SameB a H H') (n : NumsAt H' a) (h : H' l = none) : H l = none := by
  cases e : H l with
  | none => rfl
  | some o =>
    rw [s _ _ (nums_ne n h) e] at h
    cases h
theorem nums_upd {H : Hp} {a F : Addr} {o : HO} (n : NumsAt H a) (h : F ≠ a) : NumsAt (upd H F o) a := by
  obtain ⟨l, e, n⟩ := n
  exact ⟨l, by rw [upd_ne h.symm]; exact e, n⟩
theorem pick {K : PySem.W.Frag} {H : Hp} {L : Addr} {ms : List Nat} {r : Nat} {Q : VK} (e : H L = some (.lst (nts ms))) (hr : r < ms.length) (q : ∀ v, v ∈ ms → Q (.int (v : Nat)) H) : rIxL K (.ref L) (.int (r : Nat)) H Q := by
  refine ⟨L, _, r, .int (ms[r] : Nat), rfl, rfl, sqL e, atI_nat ?_, q _ (List.getElem_mem hr)⟩
  unfold nts
  rw [List.getElem?_map, List.getElem?_eq_getElem hr]
  rfl
def rTupOf (K : PySem.W.Frag) : List V → Hp → VK → Prop := fun xs H Q => ∃ p ys, xs = [.ref p] ∧ ((SqL K H p ys ∧ ∀ l, H l = none → Q (.ref l) (upd H l (.tup ys))) ∨ (SqT K H p ys ∧ Q (.ref p) H))
def rListOf (K : PySem.W.Frag) : List V → Hp → VK → Prop := fun xs H Q => ∃ p ys, xs = [.ref p] ∧ (SqL K H p ys ∨ SqT K H p ys) ∧ ∀ l, H l = none → Q (.ref l) (upd H l (.lst ys))
theorem tupOf {K : PySem.W.Frag} {H : Hp} {a : Addr} {xs : List V} {Q : VK} (h : Sq H a xs) (q : ∀ p H', Same H H' → H' p = some (.tup xs) → Q (.ref p) H') : rTupOf K [.ref a] H Q := by
  rcases h with h | h
  · exact ⟨a, xs, rfl, .inl ⟨sqL h, fun l nl => q l _ (same_upd nl) upd_same⟩⟩
  · exact ⟨a, xs, rfl, .inr ⟨sqT h, q a H (Same.refl _) h⟩⟩
theorem listOf {K : PySem.W.Frag} {H : Hp} {a : Addr} {xs : List V} {Q : VK} (h : Sq H a xs) (q : ∀ p H', Same H H' → H p = none → H' p = some (.lst xs) → Q (.ref p) H') : rListOf K [.ref a] H Q :=
  ⟨a, xs, rfl, h.elim (fun z => .inl (sqL z)) (fun z => .inr (sqT z)), fun l nl => q l _ (same_upd nl) nl upd_same⟩
/-- as LcR, what follows told of the new list's address: it is found by unification -/
def LcD (J : It) (g : TG) (tt : TT) (te : TE) (vs : List Nat) (σ : L2.St) (H1 : Hp) (Q : Addr → Hp → Prop) : Prop := ∀ D, H1 D = none → ∃ W : Nat → Nat → Hp → Prop, (∃ m, W 0 m (upd H1 D (.lst []))) ∧ ∀ i m H, W i m H →
  (J.stop i H ∧ Q D H) ∨ (J.go i H ∧ ∃ Nx : Hp → Prop, (∀ H', Nx H' → ∃ m', m' < m ∧ W (i + 1) m' H') ∧ ∀ x H', J.yld i H x H' → g x (wipe σ vs) H' fun σ2 H2 => wipe σ2 vs = wipe σ vs ∧ tt σ2 H2 fun b H3 =>
    if b = true then te σ2 H3 fun y H4 => ∃ acc, H4 D = some (.lst acc) ∧ acc.length < sizeLine ∧ Nx (upd H4 D (.lst (acc ++ [y]))) else Nx H3)
/-- [e for x in xs], xs a list; what is made is told by a predicate -/
theorem lcLst {K : PySem.W.Frag} {a : Addr} {xs : List V} {g : TG} {te : TE} {vs : List Nat} {σ : L2.St} {H1 : Hp} {Q : Addr → Hp → Prop} (T : Nat → Hp → V → Prop) (hst : ∀ i H H' x, Same H H' → T i H x → T i H' x)
    (hup : ∀ D i H x us ys, H D = some (.lst us) → H1 D = none → T i H x → T i (upd H D (.lst ys)) x) (hq : H1 a = some (.lst xs)) (hn : xs.length ≤ 4000)
    (turn : ∀ (D : Addr) (i : Nat) (x : V) (H : Hp) (Qk : VK) (Qn : Hp → Prop), xs[i]? = some x → Same H1 H → H1 D = none → (∃ us, H D = some (.lst us)) → (∀ y H4, T i H4 y → Same H H4 → Qk y H4) → g x (wipe σ vs) H fun σ2 H2 => wipe σ2 vs = wipe σ vs ∧ tYes σ2 H2 fun b H3 => if b = true then te σ2 H3 Qk else Qn H3)
    (done : ∀ D H ts, H1 D = none → Same H1 H → H D = some (.lst ts) → Paired (fun x i => T i H x) ts (List.range xs.length) → Q D H) : LcD (Itl K a) g tYes te vs σ H1 Q := by
  have ef : ∀ n : Nat, (List.range n).filter (fun _ => true) = List.range n := fun n => List.filter_eq_self.mpr (fun _ _ => rfl)
  refine fun D nD => lcPred (n := xs.length) (tt := tYes) (fun _ => true) T hst (fun i H x us ys e h => hup D i H x us ys e nD h) nD hn (fun i H h s => ⟨xs, xs[i], sqL (s _ _ hq), List.getElem?_eq_getElem h⟩) (fun H s => ⟨xs, sqL (s _ _ hq), Nat.le_refl _⟩)
      (fun i x H H' Qk Qn h s eD y hk _ => ?_) (fun H ts s e p => done D H ts nD s e (by rw [ef] at p; exact p))
  obtain ⟨rfl, y⟩ := y
  exact turn D i x _ Qk Qn (y xs (sqL (s _ _ hq))) s nD eD fun y H4 h4 s4 => hk y H4 rfl h4 s4
/-- .. a tuple -/
theorem lcTup {K : PySem.W.Frag} {a : Addr} {xs : List V} {g : TG} {te : TE} {vs : List Nat} {σ : L2.St} {H1 : Hp} {Q : Addr → Hp → Prop} (T : Nat → Hp → V → Prop) (hst : ∀ i H H' x, Same H H' → T i H x → T i H' x)
    (hup : ∀ D i H x us ys, H D = some (.lst us) → H1 D = none → T i H x → T i (upd H D (.lst ys)) x) (hq : H1 a = some (.tup xs)) (hn : xs.length ≤ 4000)
    (turn : ∀ (D : Addr) (i : Nat) (x : V) (H : Hp) (Qk : VK) (Qn : Hp → Prop), xs[i]? = some x → Same H1 H → H1 D = none → (∃ us, H D = some (.lst us)) → (∀ y H4, T i H4 y → Same H H4 → Qk y H4) → g x (wipe σ vs) H fun σ2 H2 => wipe σ2 vs = wipe σ vs ∧ tYes σ2 H2 fun b H3 => if b = true then te σ2 H3 Qk else Qn H3)
    (done : ∀ D H ts, H1 D = none → Same H1 H → H D = some (.lst ts) → Paired (fun x i => T i H x) ts (List.range xs.length) → Q D H) : LcD (Itt K a) g tYes te vs σ H1 Q := by
  have ef : ∀ n : Nat, (List.range n).filter (fun _ => true) = List.range n := fun n => List.filter_eq_self.mpr (fun _ _ => rfl)
  refine fun D nD => lcPred (n := xs.length) (tt := tYes) (fun _ => true) T hst (fun i H x us ys e h => hup D i H x us ys e nD h) nD hn (fun i H h s => ⟨xs, xs[i], sqT (s _ _ hq), List.getElem?_eq_getElem h⟩) (fun H s => ⟨xs, sqT (s _ _ hq), Nat.le_refl _⟩)
      (fun i x H H' Qk Qn h s eD y hk _ => ?_) (fun H ts s e p => done D H ts nD s e (by rw [ef] at p; exact p))
  obtain ⟨rfl, y⟩ := y
  exact turn D i x _ Qk Qn (y xs (sqT (s _ _ hq))) s nD eD fun y H4 h4 s4 => hk y H4 rfl h4 s4
/-- .. a list or a tuple -/
theorem lcSeqP {K : PySem.W.Frag} {a : Addr} {xs : List V} {g : TG} {te : TE} {vs : List Nat} {σ : L2.St} {H1 : Hp} {Q : Addr → Hp → Prop} (T : Nat → Hp → V → Prop) (hst : ∀ i H H' x, Same H H' → T i H x → T i H' x)
    (hup : ∀ D i H x us ys, H D = some (.lst us) → H1 D = none → T i H x → T i (upd H D (.lst ys)) x) (hq : Sq H1 a xs) (hn : xs.length ≤ 4000)
    (turn : ∀ (D : Addr) (i : Nat) (x : V) (H : Hp) (Qk : VK) (Qn : Hp → Prop), xs[i]? = some x → Same H1 H → H1 D = none → (∃ us, H D = some (.lst us)) → (∀ y H4, T i H4 y → Same H H4 → Qk y H4) → g x (wipe σ vs) H fun σ2 H2 => wipe σ2 vs = wipe σ vs ∧ tYes σ2 H2 fun b H3 => if b = true then te σ2 H3 Qk else Qn H3)
    (done : ∀ D H ts, H1 D = none → Same H1 H → H D = some (.lst ts) → Paired (fun x i => T i H x) ts (List.range xs.length) → Q D H) :
    (SqL K H1 a xs ∧ LcD (Itl K a) g tYes te vs σ H1 Q) ∨ (SqT K H1 a xs ∧ LcD (Itt K a) g tYes te vs σ H1 Q) :=
  hq.elim (fun hq => .inl ⟨sqL hq, lcLst T hst hup hq hn turn done⟩) fun hq => .inr ⟨sqT hq, lcTup T hst hup hq hn turn done⟩
/-- [e for i in range(n)]; what is made is told by a predicate -/
theorem lcRngP {n : Nat} {g : TG} {te : TE} {vs : List Nat} {σ : L2.St} {H1 : Hp} {Q : Addr → Hp → Prop} (T : Nat → Hp → V → Prop) (hst : ∀ i H H' x, Same H H' → T i H x → T i H' x)
    (hup : ∀ D i H x us ys, H D = some (.lst us) → H1 D = none → T i H x → T i (upd H D (.lst ys)) x) (hn : n ≤ 4000)
    (turn : ∀ (D : Addr) (i : Nat) (H : Hp) (Qk : VK) (Qn : Hp → Prop), i < n → Same H1 H → H1 D = none → (∃ us, H D = some (.lst us)) → (∀ y H4, T i H4 y → Same H H4 → Qk y H4) → g (.int (i : Nat)) (wipe σ vs) H fun σ2 H2 => wipe σ2 vs = wipe σ vs ∧ tYes σ2 H2 fun b H3 => if b = true then te σ2 H3 Qk else Qn H3)
    (done : ∀ D H ts, H1 D = none → Same H1 H → H D = some (.lst ts) → Paired (fun x i => T i H x) ts (List.range n) → Q D H) : LcD (Itr 0 n) g tYes te vs σ H1 Q := by
  have ef : ∀ n : Nat, (List.range n).filter (fun _ => true) = List.range n := fun n => List.filter_eq_self.mpr (fun _ _ => rfl)
  refine fun D nD => lcPred (n := n) (tt := tYes) (fun _ => true) T hst (fun i H x us ys e h => hup D i H x us ys e nD h) nD hn (fun i H h s => h) (fun H s => Nat.le_refl _)
      (fun i x H H' Qk Qn h s eD y hk _ => ?_) (fun H ts s e p => done D H ts nD s e (by rw [ef] at p; exact p))
  obtain ⟨rfl, rfl⟩ := y
  rw [Int.zero_add]
  exact turn D i _ Qk Qn h s nD eD fun y H4 h4 s4 => hk y H4 rfl h4 s4
theorem paired_eq {α β : Type} {g : β → α} {xs : List α} {ys : List β} (p : Paired (fun x y => x = g y) xs ys) : xs = ys.map g := by
  induction p with
  | nil => rfl
  | cons f _ ih => rw [List.map_cons, f, ih]
theorem map_range_get {α : Type} {f : Nat → α} {xs : List α} (h : ∀ i x, xs[i]? = some x → f i = x) : (List.range xs.length).map f = xs := by
  refine List.ext_getElem? fun i => ?_
  rw [List.getElem?_map]
  by_cases hi : i < xs.length
  · rw [List.getElem?_eq_getElem (by rw [List.length_range]; exact hi), List.getElem_range, List.getElem?_eq_getElem hi]
    exact congrArg some (h i _ (List.getElem?_eq_getElem hi))
  · rw [List.getElem?_eq_none (by rw [List.length_range]; omega), List.getElem?_eq_none (by omega)]
    rfl
theorem atI_end (xs : List V) (v : V) : atI (xs ++ [v]) (-1) = some v := by
  unfold atI ixN
  rw [if_neg (by omega), if_pos (by rw [List.length_append, List.length_singleton]; omega)]
  show (xs ++ [v])[((-1 : Int) + ((xs ++ [v]).length : Int)).toNat]? = some v
  rw [List.length_append, List.length_singleton, show ((-1 : Int) + ((xs.length + 1 : Nat) : Int)).toNat = xs.length by omega, List.getElem?_append_right (Nat.le_refl _), Nat.sub_self]
  rfl
/-- [e for i, x in enumerate(xs)], xs a tuple -/
theorem lcEnT {K : PySem.W.Frag} {a : Addr} {xs : List V} {g : TG} {te : TE} {vs : List Nat} {σ : L2.St} {H1 : Hp} {Q : Addr → Hp → Prop} (T : Nat → Hp → V → Prop) (hst : ∀ i H H' x, Same H H' → T i H x → T i H' x)
    (hup : ∀ D i H x us ys, H D = some (.lst us) → H1 D = none → T i H x → T i (upd H D (.lst ys)) x) (hq : H1 a = some (.tup xs)) (hn : xs.length ≤ 4000)
    (turn : ∀ (D : Addr) (i : Nat) (x : V) (U : Addr) (H : Hp) (Qk : VK) (Qn : Hp → Prop), xs[i]? = some x → Same H1 H → H1 D = none → (∃ us, H D = some (.lst us)) → H U = none → (∀ y H4, T i H4 y → Same H H4 → Qk y H4) → g (.ref U) (wipe σ vs) (upd H U (.tup [.int (i : Nat), x])) fun σ2 H2 => wipe σ2 vs = wipe σ vs ∧ tYes σ2 H2 fun b H3 => if b = true then te σ2 H3 Qk else Qn H3)
    (done : ∀ D H ts, H1 D = none → Same H1 H → H D = some (.lst ts) → Paired (fun x i => T i H x) ts (List.range xs.length) → Q D H) : LcD (IteT K a) g tYes te vs σ H1 Q := by
  have ef : ∀ n : Nat, (List.range n).filter (fun _ => true) = List.range n := fun n => List.filter_eq_self.mpr (fun _ _ => rfl)
  refine fun D nD => lcPred (n := xs.length) (tt := tYes) (fun _ => true) T hst (fun i H x us ys e h => hup D i H x us ys e nD h) nD hn (fun i H h s => ⟨xs, xs[i], sqT (s _ _ hq), List.getElem?_eq_getElem h⟩) (fun H s => ⟨xs, sqT (s _ _ hq), rfl⟩)
      (fun i x H H' Qk Qn h s eD y hk _ => ?_) (fun H ts s e p => done D H ts nD s e (by rw [ef] at p; exact p))
  obtain ⟨U, x, rfl, nU, rfl, hx⟩ := y
  exact turn D i x U _ Qk Qn (hx xs (sqT (s _ _ hq))) s nD eD nU fun y H4 h4 s4 => hk y H4 rfl h4 s4
/-- for x in xs, xs a tuple -/
theorem forTt {K : PySem.W.Frag} {a : Addr} {xs : List V} {g : TG} {tb : TS} {D : Ends} {σ : L2.St} {H : Hp} (Pv : Nat → L2.St → Hp → Prop) (hq : H a = some (.tup xs)) (h0 : Pv 0 σ H) (hl : ∀ i σ H' o, Pv i σ H' → H a = some o → H' a = some o)
    (turn : ∀ i x σ H, xs[i]? = some x → Pv i σ H → g x σ H fun σ2 H2 => tb { nx := Pv (i + 1), rt := D.rt, bk := D.nx, ct := Pv (i + 1) } σ2 H2) (done : ∀ σ H, Pv xs.length σ H → D.nx σ H) : ForR (Itt K a) g tb D σ H :=
  forGen (n := xs.length) Pv h0 (fun i σ H h p => ⟨xs, xs[i], sqT (hl _ _ _ _ p hq), List.getElem?_eq_getElem h⟩) (fun σ H p => ⟨xs, sqT (hl _ _ _ _ p hq), Nat.le_refl _⟩) (fun i x σ H H' hi p y => by
    obtain ⟨rfl, y⟩ := y
    exact turn i x σ _ (y xs (sqT (hl _ _ _ _ p hq))) p) done
/-- for x in xs, xs a list that the body does not change -/
theorem forLs {K : PySem.W.Frag} {a : Addr} {xs : List V} {g : TG} {tb : TS} {D : Ends} {σ : L2.St} {H : Hp} (Pv : Nat → L2.St → Hp → Prop) (hq : H a = some (.lst xs)) (h0 : Pv 0 σ H) (hl : ∀ i σ H', Pv i σ H' → H' a = some (.lst xs))
    (turn : ∀ i x σ H, xs[i]? = some x → Pv i σ H → g x σ H fun σ2 H2 => tb { nx := Pv (i + 1), rt := D.rt, bk := D.nx, ct := Pv (i + 1) } σ2 H2) (done : ∀ σ H, Pv xs.length σ H → D.nx σ H) : ForR (Itl K a) g tb D σ H :=
  forGen (n := xs.length) Pv h0 (fun i σ H h p => ⟨xs, xs[i], sqL (hl _ _ _ p), List.getElem?_eq_getElem h⟩) (fun σ H p => ⟨xs, sqL (hl _ _ _ p), Nat.le_refl _⟩) (fun i x σ H H' hi p y => by
    obtain ⟨rfl, y⟩ := y
    exact turn i x σ _ (y xs (sqL (hl _ _ _ p))) p) done
/-- for i in range(n) -/
theorem forRg {n : Nat} {g : TG} {tb : TS} {D : Ends} {σ : L2.St} {H : Hp} (Pv : Nat → L2.St → Hp → Prop) (h0 : Pv 0 σ H)
    (turn : ∀ i σ H, i < n → Pv i σ H → g (.int (i : Nat)) σ H fun σ2 H2 => tb { nx := Pv (i + 1), rt := D.rt, bk := D.nx, ct := Pv (i + 1) } σ2 H2) (done : ∀ σ H, Pv n σ H → D.nx σ H) : ForR (Itr 0 n) g tb D σ H :=
  forGen (n := n) Pv h0 (fun i σ H h p => h) (fun σ H p => Nat.le_refl _) (fun i x σ H H' hi p y => by
    obtain ⟨rfl, rfl⟩ := y
    rw [Int.zero_add]
    exact turn i σ _ hi p) done
theorem atI_lastN {l : List Nat} {y : Nat} (h : l.getLast? = some y) : atI (nts l) (-1) = some (.int (y : Nat)) := by
  obtain ⟨pre, rfl⟩ : ∃ pre, l = pre ++ [y] := List.getLast?_eq_some_iff.mp h
  have e : nts (pre ++ [y]) = nts pre ++ [V.int (y : Nat)] := by unfold nts; rw [List.map_append]; rfl
  rw [e]
  exact atI_end _ _
/-! ### whole numbers from 0 on -/
def rAddN : R2 := fun x y H Q => ∃ m n : Nat, x = .int (m : Nat) ∧ y = .int (n : Nat) ∧ Q (.int ((m + n : Nat) : Int)) H
def rSubN : R2 := fun x y H Q => ∃ m n : Nat, x = .int (m : Nat) ∧ y = .int (n : Nat) ∧ n ≤ m ∧ Q (.int ((m - n : Nat) : Int)) H
def rMultN : R2 := fun x y H Q => ∃ m n : Nat, x = .int (m : Nat) ∧ y = .int (n : Nat) ∧ m < 1000000000000000000 ∧ Q (.int ((m * n : Nat) : Int)) H
def rFloorDivN : R2 := fun x y H Q => ∃ m n : Nat, x = .int (m : Nat) ∧ y = .int (n : Nat) ∧ 1 ≤ n ∧ n < 1073741824 ∧ Q (.int ((m / n : Nat) : Int)) H
def rModN : R2 := fun x y H Q => ∃ m n : Nat, x = .int (m : Nat) ∧ y = .int (n : Nat) ∧ 1 ≤ n ∧ Q (.int ((m % n : Nat) : Int)) H
theorem fmod_nat (m n : Nat) : Int.fmod (m : Int) (n : Int) = ((m % n : Nat) : Int) := by
  rw [Int.fmod_eq_emod_of_nonneg _ (by omega)]
  rfl
theorem fdiv_nat (m n : Nat) : Int.fdiv (m : Int) (n : Int) = ((m / n : Nat) : Int) := by
  rw [Int.fdiv_eq_ediv_of_nonneg _ (by omega)]
  rfl
section
variable {X : Cx}
theorem op_AddN : OpR X (binaryOp .Add) rAddN := by
  intro pins s σ H x y v u Q I rx ry h
  obtain ⟨m, n, hx, hy, q⟩ := h
  exact op_add pins s σ H x y v u Q I rx ry ⟨m, n, hx, hy, by rw [Int.natCast_add] at q; exact q⟩
theorem op_SubN : OpR X (binaryOp .Sub) rSubN := by
  intro pins s σ H x y v u Q I rx ry h
  obtain ⟨m, n, hx, hy, hl, q⟩ := h
  exact op_sub pins s σ H x y v u Q I rx ry ⟨m, n, hx, hy, by rw [Int.natCast_sub hl] at q; exact q⟩
theorem op_MultN : OpR X (binaryOp .Mult) rMultN := by
  intro pins s σ H x y v u Q I rx ry h
  obtain ⟨m, n, hx, hy, hl, q⟩ := h
  exact op_mul pins s σ H x y v u Q I rx ry ⟨m, n, hx, hy, .inl ⟨by omega, by omega⟩, by rw [Int.natCast_mul] at q; exact q⟩
theorem op_FloorDivN : OpR X (binaryOp .FloorDiv) rFloorDivN := by
  intro pins s σ H x y v u Q I rx ry h
  obtain ⟨m, n, hx, hy, h1, h2, q⟩ := h
  exact op_fdivN pins s σ H x y v u Q I rx ry ⟨m, n, hx, hy, ⟨by omega, by omega⟩, by rw [← fdiv_nat] at q; exact q⟩
theorem op_ModN : OpR X (binaryOp .Mod) rModN := by
  intro pins s σ H x y v u Q I rx ry h
  obtain ⟨m, n, hx, hy, h1, q⟩ := h
  exact op_modN pins s σ H x y v u Q I rx ry ⟨m, n, hx, hy, (show ((n : Nat) : Int) ≠ 0 by omega), by rw [← fmod_nat] at q; exact q⟩
end
def rMax2N : List V → Hp → VK → Prop := fun xs H Q => ∃ m n : Nat, xs = [.int (m : Nat), .int (n : Nat)] ∧ Q (.int ((max m n : Nat) : Int)) H
def rMin2N : List V → Hp → VK → Prop := fun xs H Q => ∃ m n : Nat, xs = [.int (m : Nat), .int (n : Nat)] ∧ Q (.int ((min m n : Nat) : Int)) H
section
variable {X : Cx}
theorem call_max2N (hc : X.calm = true) : CallR X (.builtin "max") rMax2N := by
  intro pins s σ H vs us Q I r h
  obtain ⟨m, n, hx, q⟩ := h
  refine call_max2 hc pins s σ H vs us Q I r ⟨m, n, hx, ?_⟩
  have e : (if ((n : Nat) : Int) > ((m : Nat) : Int) then ((n : Nat) : Int) else ((m : Nat) : Int)) = ((max m n : Nat) : Int) := by split <;> omega
  rw [e]
  exact q
theorem call_min2N (hc : X.calm = true) : CallR X (.builtin "min") rMin2N := by
  intro pins s σ H vs us Q I r h
  obtain ⟨m, n, hx, q⟩ := h
  refine call_min2 hc pins s σ H vs us Q I r ⟨m, n, hx, ?_⟩
  have e : (if ((n : Nat) : Int) < ((m : Nat) : Int) then ((n : Nat) : Int) else ((m : Nat) : Int)) = ((min m n : Nat) : Int) := by split <;> omega
  rw [e]
  exact q
end
theorem tupsB {a : Addr} {H H' : Hp} {ts : List V} {ls : List (List V)} (n : NumsAt H a) (s : SameB a H H') (p : TupsT H ts ls) : TupsT H' ts ls := by
  obtain ⟨ns, e, _⟩ := n
  exact paired_imp (fun x c ⟨b, e1, h⟩ => ⟨b, e1, s _ _ (fun z => by rw [z, e] at h; cases h) h⟩) p
theorem pickI {K : PySem.W.Frag} {H : Hp} {L : Addr} {ms : List Int} {r : Nat} {Q : VK} (e : H L = some (.lst (ms.map V.int))) (hr : r < ms.length) (q : ∀ v, v ∈ ms → Q (.int v) H) : rIxL K (.ref L) (.int (r : Nat)) H Q := by
  refine ⟨L, _, r, .int ms[r], rfl, rfl, sqL e, atI_nat ?_, q _ (List.getElem_mem hr)⟩
  rw [List.getElem?_map, List.getElem?_eq_getElem hr]
  rfl
theorem paired_set {α β : Type} {F : α → β → Prop} {xs : List α} {ys : List β} (p : Paired F xs ys) : ∀ (i : Nat) {x : α} {y : β}, F x y → Paired F (xs.set i x) (ys.set i y) := by
  induction p with
  | nil => intro i x y h; exact .nil
  | cons f r ih =>
    intro i x y h
    cases i with
    | zero => exact .cons h r
    | succ i => exact .cons f (ih i h)
theorem ixN_nat {n i : Nat} (h : i < n) : ixN n ((i : Nat) : Int) = some i := by
  unfold ixN
  rw [if_pos (by omega), if_pos (by omega)]
  rfl
/-- for i in range(lo, lo + n) -/
theorem forRgL {lo n : Nat} {g : TG} {tb : TS} {D : Ends} {σ : L2.St} {H : Hp} (Pv : Nat → L2.St → Hp → Prop) (h0 : Pv 0 σ H)
    (turn : ∀ i σ H, i < n → Pv i σ H → g (.int ((lo + i : Nat) : Int)) σ H fun σ2 H2 => tb { nx := Pv (i + 1), rt := D.rt, bk := D.nx, ct := Pv (i + 1) } σ2 H2) (done : ∀ σ H, Pv n σ H → D.nx σ H) : ForR (Itr ((lo : Nat) : Int) n) g tb D σ H :=
  forGen (n := n) Pv h0 (fun i σ H h p => h) (fun σ H p => Nat.le_refl _) (fun i x σ H H' hi p y => by
    obtain ⟨rfl, rfl⟩ := y
    rw [← Int.natCast_add]
    exact turn i σ _ hi p) done
/-- [e for x in xs], xs a tuple; what is made is told by a predicate that speaks of the new list's address, too -/
theorem lcTupD {K : PySem.W.Frag} {a : Addr} {xs : List V} {g : TG} {te : TE} {vs : List Nat} {σ : L2.St} {H1 : Hp} {Q : Addr → Hp → Prop} (T : Addr → Nat → Hp → V → Prop) (hst : ∀ D i H H' x, Same H H' → T D i H x → T D i H' x)
    (hup : ∀ D i H x us ys, H D = some (.lst us) → H1 D = none → T D i H x → T D i (upd H D (.lst ys)) x) (hq : H1 a = some (.tup xs)) (hn : xs.length ≤ 4000)
    (turn : ∀ (D : Addr) (i : Nat) (x : V) (H : Hp) (Qk : VK) (Qn : Hp → Prop), xs[i]? = some x → Same H1 H → H1 D = none → (∃ us, H D = some (.lst us)) → (∀ y H4, T D i H4 y → Same H H4 → Qk y H4) → g x (wipe σ vs) H fun σ2 H2 => wipe σ2 vs = wipe σ vs ∧ tYes σ2 H2 fun b H3 => if b = true then te σ2 H3 Qk else Qn H3)
    (done : ∀ D H ts, H1 D = none → Same H1 H → H D = some (.lst ts) → Paired (fun x i => T D i H x) ts (List.range xs.length) → Q D H) : LcD (Itt K a) g tYes te vs σ H1 Q := by
  have ef : ∀ n : Nat, (List.range n).filter (fun _ => true) = List.range n := fun n => List.filter_eq_self.mpr (fun _ _ => rfl)
  refine fun D nD => lcPred (n := xs.length) (tt := tYes) (fun _ => true) (T D) (hst D) (fun i H x us ys e h => hup D i H x us ys e nD h) nD hn (fun i H h s => ⟨xs, xs[i], sqT (s _ _ hq), List.getElem?_eq_getElem h⟩) (fun H s => ⟨xs, sqT (s _ _ hq), Nat.le_refl _⟩)
      (fun i x H H' Qk Qn h s eD y hk _ => ?_) (fun H ts s e p => done D H ts nD s e (by rw [ef] at p; exact p))
  obtain ⟨rfl, y⟩ := y
  exact turn D i x _ Qk Qn (y xs (sqT (s _ _ hq))) s nD eD fun y H4 h4 s4 => hk y H4 rfl h4 s4
/-! ### tuples of whole numbers, compared -/
theorem dpI {K : PySem.W.Frag} {H : Hp} {T : Addr} {ks : List Int} (h : H T = some (.tup (ks.map V.int))) : Dp K H (.ref T) (.tuple (ks.map PyData.int)) := .tup (sqT h) (dpInts ks)
theorem shI (ks : List Int) : SeqAt.shaped (.tuple (ks.map PyData.int)) = true := by
  unfold SeqAt.shaped
  rw [show PyData.canLay0 (.tuple (ks.map PyData.int)) = PyData.canLayAll0 (ks.map PyData.int) from rfl, canInts, Bool.true_and, decide_eq_true_eq]
  show PyData.depthAll (ks.map PyData.int) + 1 ≤ 64
  rw [depInts]
  decide
theorem eqI (ks ls : List Int) : PyData.eqv (.tuple (ks.map PyData.int)) (.tuple (ls.map PyData.int)) = decide (ks = ls) := by
  rw [PyData.eqv]
  exact eqvInts ks ls
theorem eqIr (ks : List Int) : PyData.eqv (.tuple (ks.map PyData.int)) (.tuple (ks.map PyData.int)) = true := by
  rw [eqI]
  exact decide_eq_true rfl
end K7

set_option Elab.async false
set_option linter.all false
set_option maxRecDepth 100000
set_option maxHeartbeats 4000000
namespace RG
open PySem PySem.Spec PyProof.Rows L2
/-- e, whose new thing is only read from here on -/
def tFz (te : TE) : TE := fun σ H Q => te σ H fun x H1 => ∃ d u, x = .ref d ∧ H1 d = some u ∧ Mut (some u) ∧ ∀ od, Q x (upd H1 d (.frz od u))
theorem pe_froze {X : Cx} {e : Expr} {te : TE} (he : PE X e te) : PE X e (tFz te) := by
  refine ⟨fun pins s σ H Q I h => thn (he.run pins s σ H _ I h) fun v s1 z => ?_⟩
  obtain ⟨x, H1, I1, r1, d, u, rfl, hd, mu, q⟩ := z
  obtain ⟨od, I2⟩ := I1.lock hd mu
  exact ⟨.ref d, _, I2, r1, q od⟩
end RG
namespace K7
open PySem PySem.Spec PyProof.Rows L2 GX NdefX SX
/-- {elt for c in a locked dict with tuple keys if cond} -/
theorem setKT {w : World} {d : Addr} {o : Obj} {kvs : List (List L2.Key × V)} {c : Nat} {tt : TT} {te : TE} {σ : L2.St} {H1 : Hp} {Q : Addr → Hp → Prop} (B : List L2.Key → Bool) (G : List L2.Key → L2.Key) (hk : H1 d = some (.frz o (.dT kvs))) (few : kvs.length < 4000)
    (htt : ∀ (kk : List L2.Key) (q : Addr) (H2 : Hp) (Qt : Bool → Hp → Prop), kk ∈ kvs.map (·.1) → H2 q = some (.tup (kk.map kV)) → Same H1 H2 → Qt (B kk) H2 → tt ((wipe σ [c]).set c (some (.ref q))) H2 Qt)
    (hte : ∀ (kk : List L2.Key) (q : Addr) (H2 : Hp) (Qe : VK), kk ∈ kvs.map (·.1) → B kk = true → H2 q = some (.tup (kk.map kV)) → Same H1 H2 → Qe (kV (G kk)) H2 → te ((wipe σ [c]).set c (some (.ref q))) H2 Qe)
    (done : ∀ D H2 ks, H1 D = none → Same H1 H2 → H2 D = some (Own w D ks) → (∀ k, k ∈ ks ↔ ∃ kk ∈ kvs.map (·.1), B kk = true ∧ G kk = k) → Q D H2) :
    ∀ D, H1 D = none → ∃ W : Nat → Nat → Hp → Prop, (∃ m, W 0 m (upd H1 D (Own w D []))) ∧
      ∀ i m H2, W i m H2 → ((Itkt d o kvs).stop i H2 ∧ Q D H2) ∨ ((Itkt d o kvs).go i H2 ∧ ∃ Nx : Hp → Prop, (∀ H3, Nx H3 → ∃ m1, m1 < m ∧ W (i + 1) m1 H3) ∧
        ∀ x H3, (Itkt d o kvs).yld i H2 x H3 → gName c x (wipe σ [c]) H3 fun σ4 H4 => wipe σ4 [c] = wipe σ [c] ∧ tt σ4 H4 fun b H5 =>
          if b = true then te σ4 H5 fun y H6 => ∃ (k : L2.Key) (ks : List L2.Key), y = kV k ∧ H6 D = some (Own w D ks) ∧ ks.length + 1 < scanBound ∧ Nx (upd H6 D (Own w D (if k ∈ ks then ks else k :: ks))) else Nx H5) := by
  intro D nD
  have ndD : d ≠ D := fun e => by rw [e, nD] at hk; cases hk
  have wk := walk_keysT (d := d) (o := o) (kvs := kvs)
  let Pv : Nat → Hp → Prop := fun i H' => ∃ ks, Same H1 H' ∧ H' D = some (Own w D ks) ∧ (∀ k, k ∈ ks ↔ ∃ kk ∈ (kvs.take i).map (·.1), B kk = true ∧ G kk = k) ∧ ks.length ≤ i
  refine ⟨fun i m H' => m = kvs.length - i ∧ i ≤ kvs.length ∧ Pv i H', ⟨kvs.length, by omega, Nat.zero_le _, [], same_upd nD, upd_same, fun k => by simp, Nat.le_refl _⟩, ?_⟩
  rintro i m H2 ⟨rfl, hi, ks, s2, eD, mem, len⟩
  have hd2 := s2 _ _ hk
  by_cases hlt : i < kvs.length
  · refine .inr ⟨wk.goes i H2 hlt hd2, Pv (i + 1), fun H3 p => ⟨_, by omega, rfl, hlt, p⟩, fun x H3 y => ?_⟩
    obtain ⟨rfl, kk, v, q, hkv, rfl, hq⟩ := wk.yields i H2 x H3 hlt hd2 y
    have mk : kk ∈ kvs.map (·.1) := List.mem_map.mpr ⟨_, List.mem_of_getElem? hkv, rfl⟩
    have tk : (kvs.take (i + 1)).map (·.1) = (kvs.take i).map (·.1) ++ [kk] := by rw [List.take_add_one, hkv, List.map_append]; rfl
    show wipe ((wipe σ [c]).set c (some (.ref q))) [c] = wipe σ [c] ∧ _
    refine ⟨by rw [wipe1, wipe2], htt kk q _ _ mk hq s2 ?_⟩
    by_cases hb : B kk = true
    · rw [hb, if_pos rfl]
      refine hte kk q _ _ mk hb hq s2 ⟨G kk, ks, rfl, eD, by show ks.length + 1 < 4096; omega, if G kk ∈ ks then ks else G kk :: ks, fun b o e => ?_, upd_same, fun k => ?_, ?_⟩
      · rw [upd_ne (fun z => by rw [z, nD] at e; cases e)]; exact s2 _ _ e
      · rw [tk]
        have base : k ∈ (if G kk ∈ ks then ks else G kk :: ks) ↔ k ∈ ks ∨ k = G kk := by
          split
          · rename_i h; exact ⟨.inl, fun z => z.elim id fun e => e ▸ h⟩
          · rw [List.mem_cons]; exact Or.comm
        rw [base, mem k]
        constructor
        · rintro (⟨k2, m2, b2⟩ | e)
          · exact ⟨k2, List.mem_append_left _ m2, b2⟩
          · exact ⟨kk, List.mem_append_right _ (List.mem_singleton.mpr rfl), hb, e.symm⟩
        · rintro ⟨k2, m2, b2, e2⟩
          rcases List.mem_append.mp m2 with m2 | m2
          · exact .inl ⟨k2, m2, b2, e2⟩
          · rw [List.mem_singleton.mp m2] at e2; exact .inr e2.symm
      · split
        · omega
        · simp only [List.length_cons]; omega
    · rw [if_neg hb]
      refine ⟨ks, s2, eD, fun k => ?_, by omega⟩
      rw [tk, mem k]
      constructor
      · rintro ⟨k2, m2, b2⟩
        exact ⟨k2, List.mem_append_left _ m2, b2⟩
      · rintro ⟨k2, m2, b2, e2⟩
        rcases List.mem_append.mp m2 with m2 | m2
        · exact ⟨k2, m2, b2, e2⟩
        · rw [List.mem_singleton.mp m2] at b2; exact absurd b2 hb
  · have e : i = kvs.length := by omega
    subst e
    rw [List.take_length] at mem
    exact .inl ⟨wk.stops _ hd2, done D H2 ks nD s2 eD mem⟩
/-- [elt for c in a locked dict with tuple keys], elt a truth value -/
theorem lcKT {d : Addr} {o : Obj} {kvs : List (List L2.Key × V)} {c : Nat} {te : TE} {σ : L2.St} {H1 : Hp} {Q : Addr → Hp → Prop} (G : List L2.Key → Bool) (hk : H1 d = some (.frz o (.dT kvs))) (few : kvs.length ≤ 4000)
    (hte : ∀ (kk : List L2.Key) (q : Addr) (H2 : Hp) (Qe : VK), kk ∈ kvs.map (·.1) → H2 q = some (.tup (kk.map kV)) → Same H1 H2 → Qe (.bl (G kk)) H2 → te ((wipe σ [c]).set c (some (.ref q))) H2 Qe)
    (done : ∀ D H2, H1 D = none → Same H1 H2 → H2 D = some (.lst ((kvs.map fun p => G p.1).map V.bl)) → Q D H2) : LcD (Itkt d o kvs) (gName c) tYes te [c] σ H1 Q := by
  intro D nD
  have wk := walk_keysT (d := d) (o := o) (kvs := kvs)
  refine ⟨fun i m H' => m = kvs.length - i ∧ i ≤ kvs.length ∧ Same H1 H' ∧ H' D = some (.lst (((kvs.take i).map fun p => G p.1).map V.bl)), ⟨kvs.length, by omega, Nat.zero_le _, same_upd nD, upd_same⟩, ?_⟩
  rintro i m H2 ⟨rfl, hi, s2, eD⟩
  have hd2 := s2 _ _ hk
  by_cases hlt : i < kvs.length
  · refine .inr ⟨wk.goes i H2 hlt hd2, fun H' => Same H1 H' ∧ H' D = some (.lst (((kvs.take (i + 1)).map fun p => G p.1).map V.bl)), fun H3 p => ⟨_, by omega, rfl, hlt, p⟩, fun x H3 y => ?_⟩
    obtain ⟨rfl, kk, v, q, hkv, rfl, hq⟩ := wk.yields i H2 x H3 hlt hd2 y
    have mk : kk ∈ kvs.map (·.1) := List.mem_map.mpr ⟨_, List.mem_of_getElem? hkv, rfl⟩
    delta gName tYes
    refine ⟨by rw [wipe1, wipe2], iteT (hte kk q _ _ mk hq s2 ?_)⟩
    refine ⟨_, eD, ?_, fun b o e => ?_, ?_⟩
    · rw [List.length_map, List.length_map, List.length_take, sizeLine_eq]; omega
    · rw [upd_ne (fun z => by rw [z, nD] at e; cases e)]; exact s2 _ _ e
    · rw [upd_same, List.take_add_one, hkv, List.map_append, List.map_append]; rfl
  · have e : i = kvs.length := by omega
    subst e
    rw [List.take_length] at eD
    exact .inl ⟨wk.stops _ hd2, done D H2 nD s2 eD⟩
end K7

set_option Elab.async false
set_option linter.all false
set_option maxRecDepth 100000
set_option maxHeartbeats 4000000
/-! raise C(e, ..) from D(..): both own exceptions -/
namespace L2
open PySem PySem.Spec PyProof.Rows
section
variable {X : Cx} {pins : List (Addr × Obj)} {σ : St} {H : Hp} {s : Shared}
/-- the new exception is held as a pin -/
theorem Inv.pin1 {sI : Shared} {a : Addr} {oe : Obj} {vs : Array Value} (J : Inv X pins σ H sI) (k : ∀ b o, sI.heap.get? b = some o → s.heap.get? b = some o) (ne : sI.heap.get? a = none) (ha : s.heap.get? a = some oe) (hd : oe.data = .fields vs)
    (na : H a = none) (os : s.os = sI.os) (ag : AllBare s.gens) : Inv X ((a, oe) :: pins) σ H s := by
  have J1 : Inv X pins σ H s := by
    obtain ⟨h1, g1, d1, t1, os1⟩ := s
    cases os
    exact J.call' (ch := []) rfl (Un.kept k) (J.hok.kept k) ag fun _ z => nomatch z
  have pn : ∀ p ∈ X.pn ++ pins, s.heap.get? p.1 = some p.2 ∧ H p.1 = none ∧ p.1 ≠ X.env.locals ∧ p.1 ∉ X.fs ∧ ∀ v, p.2.data ≠ .cell v := J1.pin
  refine { J1 with pin := fun p m => ?_ }
  rcases List.mem_append.mp m with m | m
  · exact pn p (List.mem_append_left _ m)
  · rcases List.mem_cons.mp m with e | m
    · subst e
      refine ⟨ha, na, fun e => ?_, fun e => ?_, fun v e => ?_⟩
      · obtain ⟨_, ⟨o, _, _, q, _⟩, _⟩ := J.loc
        rw [← show a = X.env.locals from e, ne] at q; cases q
      · obtain ⟨_, o, q, _⟩ := J.funs.mem (show a ∈ frs X.outer from e)
        rw [ne] at q; cases q
      · rw [show oe.data = Data.fields vs from hd] at e; cases e
    · exact pn p (List.mem_append_right _ m)
/-- a pinned object that no def's entry knew is left out of the heap -/
theorem Inv.drop {a : Addr} {oe : Obj} {vs : Array Value} (J : Inv X ((a, oe) :: pins) σ H s) (hd : oe.data = .fields vs) (fresh : X.s_0.heap.get? a = none) (other : ∀ p ∈ X.pn ++ pins, p.1 ≠ a) (exs : a ∉ X.ex) :
    ∃ G : Heap, Inv X pins σ H { s with heap := G } ∧ (∀ b o, G.get? b = some o → s.heap.get? b = some o) ∧ G.get? a = none := by
  obtain ⟨G, g1, g2⟩ := restrict s.heap fun b => decide (b ≠ a)
  have gk : ∀ b, b ≠ a → G.get? b = s.heap.get? b := fun b hb => g1 b (decide_eq_true hb)
  have ge : G.get? a = none := g2 a (by simp)
  obtain ⟨ha, na, nl, nf, nc⟩ := J.pin (a, oe) (List.mem_append_right _ List.mem_cons_self)
  have back : ∀ b o, G.get? b = some o → s.heap.get? b = some o := fun b o z => by
    by_cases e : b = a
    · subst e; rw [ge] at z; cases z
    · rw [← gk b e]; exact z
  have nc0 : ∀ c v, s.heap.IsCell c v → c ≠ a := fun c v z e => by
    obtain ⟨o, q, d⟩ := z
    rw [e, ha] at q
    cases q
    exact nc v d
  have cells : ∀ c v, s.heap.IsCell c v → G.IsCell c v := fun c v z => by
    have ne := nc0 c v z
    obtain ⟨o, q, d⟩ := z
    exact ⟨o, (gk c ne).trans q, d⟩
  have old : ∀ {b : Addr} {o : Obj}, X.s_0.heap.get? b = some o → b ≠ a := fun {b o} z e => by rw [e, fresh] at z; cases z
  refine ⟨G, ?_, back, ge⟩
  exact {
    ok := J.ok, os := J.os, bare := J.bare, free := J.free, freeC := J.freeC, len := J.len
    base := {
      keep := fun b o z n hf hx => (gk b (old z)).trans (J.base.keep b o z n hf hx)
      slot := fun b o z n hf hx => by
        obtain ⟨sl, q⟩ := J.base.slot b o z n hf hx
        exact ⟨sl, (gk b (old z)).trans q⟩
      free := J.base.free
      there := fun b o z hx => by
        obtain ⟨o1, q⟩ := J.base.there b o z hx
        exact ⟨o1, (gk b (old z)).trans q⟩
      tups := J.base.tups, frzs := J.base.frzs, tbls := J.base.tbls }
    loc := by
      obtain ⟨m, ⟨o, es, ep, q, d, r⟩, look⟩ := J.loc
      refine ⟨m, ⟨o, es, ep, (gk _ (Ne.symm nl)).trans q, d, r⟩, fun i x v h1 h2 h3 => ?_⟩
      obtain ⟨u, ru, lk⟩ := look i x v h1 h2 h3
      refine ⟨u, ru, ?_⟩
      rcases lk with z | ⟨z, c, q1, q2⟩
      · exact .inl z
      · exact .inr ⟨z, c, q1, cells c _ q2⟩
    cell := fun x c q => by
      obtain ⟨v, z⟩ := J.cell x c q
      exact ⟨v, cells c v z⟩
    pin := fun p m => by
      have q := J.pin p (by
        rcases List.mem_append.mp m with z | z
        · exact List.mem_append_left _ z
        · exact List.mem_append_right _ (List.mem_cons_of_mem _ z))
      exact ⟨(gk _ (other p m)).trans q.1, q.2⟩
    hok := fun b o z => by
      have hb : b ≠ a := fun e => by rw [e, na] at z; cases z
      refine (J.hok b o z).stay (fun c v hc y => ?_) (fun c hc => hc) fun c xs hc => hc
      have hca : c ≠ a := by
        rcases hc with hc | hc
        · rw [hc]; exact hb
        · intro e; rw [e, na] at hc; cases hc
      exact (gk c hca).trans y }
end
/-- an expression that makes an exception with its six fields -/
def PMk6 (X : Cx) (e : Expr) (t : St → Hp → XK → Prop) : Prop :=
  ∀ (pins : List (Addr × Obj)) (s : Shared) (σ : St) (H : Hp) (Q : XK), Inv X pins σ H s → t σ H Q →
    wpAny (model X.prog X.w) X.A (eval e X.env) (fun u s1 => MkP X pins σ Q u s1 ∧ ∀ (a : Addr) (o : Obj) (vs : Array Value), u = .ref a → s1.heap.get? a = some o → o.data = .fields vs → vs.size = 6) X.xe s
theorem raise_cause {M : Model} {A : Around} {E : Value → Shared → Prop} {env : Env} {s : Shared} {x c : Sem Value} {Q : Flow → Shared → Prop} (calm : A.handled = none)
    (h : wpAny M A x (fun v s1 => wpAny M A c (fun u s2 => ∃ a oe vs cls b ob vs2 cls2, v = .ref a ∧ u = .ref b ∧ (s2.heap.get? a = some oe ∧ oe.cls = cls ∧ oe.data = .fields vs ∧ vs[1]? = some .none ∧ vs.size = 6) ∧ (s2.heap.get? b = some ob ∧ ob.cls = cls2 ∧ ob.data = .fields vs2) ∧
      PySem.W.Looks M s2.heap (isSubtype cls (.type "BaseException")) true ∧ PySem.W.Looks M s2.heap (isSubtype cls2 (.type "BaseException")) true ∧
      PySem.W.Looks M ((s2.heap.update a (Obj.mapFields (·.setIfInBounds 3 (.ref b)))).update a (Obj.mapFields (·.setIfInBounds 4 (.bool true)))) (typeOf cls) (.type "type") ∧
      E (.ref a) { s2 with heap := (s2.heap.update a (Obj.mapFields (·.setIfInBounds 3 (.ref b)))).update a (Obj.mapFields (·.setIfInBounds 4 (.bool true))) }) E s1) E s) :
    wpAny M A (raiseStmt env (some x) (some c)) Q E s := by
  unfold raiseStmt
  dsimp only
  refine wpAny_bind (wpAny_mono h (fun v s1 h1 => ?_) fun _ _ z => z)
  refine wpAny_bind (wpAny_holding (wpAny_mono h1 (fun u s2 h2 => ?_) fun _ _ z => z))
  obtain ⟨a, oe, vs, cls, b, ob, vs2, cls2, rfl, rfl, ⟨ha, hc, hd, hf, hz⟩, ⟨hb, hc2, hd2⟩, L1, L2', L3, hE⟩ := h2
  have isT : ∀ {n : Addr} {o : Obj} {ws : Array Value} {h' : Heap} {Q' : Bool → Shared → Prop}, h'.get? n = some o → o.data = .fields ws → Q' false { s2 with heap := h' } → wpAny M A (isType (.ref n)) Q' E { s2 with heap := h' } := by
    intro n o ws h' Q' ho hw hq
    simp only [isType, loadHead]
    refine wpAny_bind (wpAny_loadPart ho ?_)
    rw [hw]; exact wpAny_pure hq
  have LA : PySem.W.Looks M s2.heap (isInstance (.ref a) (.type "BaseException")) true := (show PySem.W.Looks M s2.heap (typeOf (.ref a)) cls from fun A Q E s k q => wpAny_typeOf_ref (k _ _ ha) (by rw [hc]; exact q)).andThen L1
  have LB : PySem.W.Looks M s2.heap (isInstance (.ref b) (.type "BaseException")) true := (show PySem.W.Looks M s2.heap (typeOf (.ref b)) cls2 from fun A Q E s k q => wpAny_typeOf_ref (k _ _ hb) (by rw [hc2]; exact q)).andThen L2'
  refine wpAny_bind (wpAny_pure ?_)
  dsimp only
  refine wpAny_bind (wpAny_holding ?_)
  have exc : ∀ {n : Addr} {o : Obj} {ws : Array Value} {w : String} {Q' : Value → Shared → Prop}, s2.heap.get? n = some o → o.data = .fields ws → PySem.W.Looks M s2.heap (isInstance (.ref n) (.type "BaseException")) true → Q' (.ref n) s2 →
      wpAny M A (excFromValue (.ref n) w) Q' E s2 := by
    intro n o ws w Q' ho hw L hq
    unfold excFromValue isExcClass
    refine wpAny_bind (wpAny_bind (isT (h' := s2.heap) ho hw ?_))
    simp only [Bool.false_eq_true, if_false]
    refine wpAny_pure ?_
    simp only [Bool.false_eq_true, if_false]
    refine wpAny_bind (L.here ?_)
    simp only [if_true]
    exact wpAny_pure hq
  refine exc ha hd LA ?_
  have s3 : 3 < vs.size := by omega
  have ha3 := Heap.get?_update_self (Obj.mapFields (·.setIfInBounds 3 (.ref b))) ha (Obj.isFreed_of_fields (Obj.data_mapFields hd _))
  have hd3 := Obj.data_mapFields hd (·.setIfInBounds 3 (.ref b))
  have s4 : 4 < (vs.setIfInBounds 3 (Value.ref b)).size := by simp; omega
  have ha4 := Heap.get?_update_self (Obj.mapFields (·.setIfInBounds 4 (.bool true))) ha3 (Obj.isFreed_of_fields (Obj.data_mapFields hd3 _))
  have hd4 := Obj.data_mapFields hd3 (·.setIfInBounds 4 (.bool true))
  have h1f : ((vs.setIfInBounds 3 (Value.ref b)).setIfInBounds 4 (Value.bool true))[1]? = some Value.none := by
    rw [Array.getElem?_setIfInBounds_ne (by decide), Array.getElem?_setIfInBounds_ne (by decide)]; exact hf
  have cls4 : (((oe.mapFields (·.setIfInBounds 3 (.ref b)))).mapFields (·.setIfInBounds 4 (.bool true))).cls = cls := by rw [Obj.cls_mapFields, Obj.cls_mapFields]; exact hc
  have rest : wpAny M A (do
      let b ← isType (.ref a)
      if b = true then do
        let e ← holding [.ref a] (raisedFor (.ref a) (.ref a))
        setFlight e none
        raiseNew e
      else do
        let e ← raisedInstance (.ref a)
        setFlight e none
        raiseNew e : Sem Flow) Q E { s2 with heap := (s2.heap.update a (Obj.mapFields (·.setIfInBounds 3 (.ref b)))).update a (Obj.mapFields (·.setIfInBounds 4 (.bool true))) } := by
    refine wpAny_bind (isT ha4 hd4 ?_)
    simp only [Bool.false_eq_true, if_false]
    unfold raisedInstance
    refine wpAny_bind (wpAny_bind (wpAny_typeOf_ref ha4 ?_))
    rw [cls4]
    refine wpAny_bind (L3.here ?_)
    rw [if_pos (beq_self_eq_true _)]
    refine wpAny_pure ?_
    unfold setFlight
    refine wpAny_bind (wpAny_bind (wpAny_field ha4 hd4 h1f ?_))
    rw [if_neg (by decide)]
    exact wpAny_pure (wpAny_raiseNew_none calm hE)
  have nn : (Value.ref b == Value.none) = false := rfl
  rw [nn]
  simp only [Bool.false_eq_true, if_false]
  refine wpAny_bind (wpAny_holding (exc hb hd2 LB ?_))
  exact wpAny_bind (wpAny_setField ha hd s3 (wpAny_bind (wpAny_setField ha3 hd3 s4 rest)))
/-- raise e from f -/
theorem ps_raiseF {X : Cx} {W : WX} {e f : Expr} {t u : St → Hp → XK → Prop} {pos : Pos} (calm : X.calm = true) (hex : X.ex = []) (tk : Takes X W) (he : PMk6 X e t) (hf : PMk X f u) :
    PS X (.Raise (some e) (some f) pos) (fun _ σ H => t σ H fun cls d H1 => u σ H1 fun _ _ H2 => W cls d σ H2) := by
  refine ⟨fun pins s σ H D I h => ?_⟩
  show wpAny _ _ (do standAt pos; raiseStmt X.env (some (do let v ← eval e X.env; standAt pos; pure v)) (some (do let v ← eval f X.env; standAt pos; pure v))) _ _ _
  refine wpAny_bind (wpAny_standAt (raise_cause (I.ok.hd calm) (wpAny_bind (wpAny_mono (he pins s σ H _ I h) (fun v s1 h1 => wpAny_bind (wpAny_standAt (wpAny_pure ?_))) fun _ _ z => z))))
  obtain ⟨⟨a, oe, vs, sI, H1, cls, d, rfl, J, k, ne, ha, hz, hd, hn, na, os, ag, r, q⟩, six⟩ := h1
  have J1 := Inv.pin1 J k ne ha hd na os ag
  refine wpAny_bind (wpAny_mono (hf _ s1 σ H1 _ J1 q) (fun w s2 h2 => wpAny_bind (wpAny_standAt (wpAny_pure ?_))) fun _ _ z => z)
  obtain ⟨b, ob, vs2, sI2, H2, cls2, d2, rfl, J2, k2, ne2, hb, hz2, hd2, -, -, os2, ag2, r2, q2⟩ := h2
  have pa := J2.pin (a, oe) (List.mem_append_right _ List.mem_cons_self)
  have ha2 : s2.heap.get? a = some oe := k2 _ _ pa.1
  have fresh : X.s_0.heap.get? a = none := by
    cases z : X.s_0.heap.get? a with
    | none => rfl
    | some o =>
      obtain ⟨o1, z1⟩ := J.base.there a o z (by rw [hex]; simp)
      rw [ne] at z1; cases z1
  obtain ⟨G, J3, back, ge⟩ := Inv.drop J2 hd fresh (fun p m e1 => by
    have z := (J.pin p m).1
    rw [e1, ne] at z; cases z) (by rw [hex]; simp)
  have other : ∀ c o, G.get? c = some o → ((s2.heap.update a (Obj.mapFields (·.setIfInBounds 3 (.ref b)))).update a (Obj.mapFields (·.setIfInBounds 4 (.bool true)))).get? c = some o := fun c o z => by
    have nac : a ≠ c := fun e1 => by rw [← e1, ge] at z; cases z
    rw [Heap.get?_update_other _ _ nac, Heap.get?_update_other _ _ nac]
    exact k2 _ _ (back _ _ z)
  have ha3 := Heap.get?_update_self (Obj.mapFields (·.setIfInBounds 3 (.ref b))) ha2 (Obj.isFreed_of_fields (Obj.data_mapFields hd _))
  have hd3 := Obj.data_mapFields hd (·.setIfInBounds 3 (.ref b))
  have ha4 := Heap.get?_update_self (Obj.mapFields (·.setIfInBounds 4 (.bool true))) ha3 (Obj.isFreed_of_fields (Obj.data_mapFields hd3 _))
  have hd4 := Obj.data_mapFields hd3 (·.setIfInBounds 4 (.bool true))
  have h1f : ((vs.setIfInBounds 3 (Value.ref b)).setIfInBounds 4 (Value.bool true))[1]? = some Value.none := by
    rw [Array.getElem?_setIfInBounds_ne (by decide), Array.getElem?_setIfInBounds_ne (by decide)]; exact hn
  refine ⟨a, oe, vs, cls, b, ob, vs2, cls2, rfl, rfl, ⟨ha2, hz.1, hd, hn, six a oe vs rfl ha hd⟩, ⟨hb, hz2.1, hd2⟩, (r (model X.prog X.w) s2.heap (J2.kIn.keeps k2)).1, (r2 (model X.prog X.w) s2.heap (J2.kIn.keeps k2)).1,
    (r (model X.prog X.w) _ (J3.kIn.keeps other)).2, tk _ _ ?_⟩
  exact XE.new J3 other ge ha4 ⟨by rw [Obj.cls_mapFields, Obj.cls_mapFields]; exact hz.1, by rw [HandSPX.dict_mapFields, HandSPX.dict_mapFields]; exact hz.2⟩ hd4 h1f pa.2.1 os2 ag2 q2
/-- C(e, ..), C's own __init__ keeping sp, with its six fields -/
theorem pmk_oex6 {X : Cx} {CX : CXT} {x : Str} {C fI : Addr} {k : Nat} {fd : FuncData} {ps : List Str} {sp : Sp} {ds : List Value} {dvs : List V} {e : Expr} {es : List Expr} {ta : TA} {p pos : Pos} (T : OexC X.K C)
    (iC : PySem.W.findIn X.K (.ref C) "__init__" = some (some (.ref fI))) (tI : PySem.W.typeIn X.K (.ref fI) = some (.type "function")) (F1 : FnOk X.prog X.w X.K X.mg X.base CX k fI fd ps sp) (hr : Room (k + 1) X.A) (hb : Binds X.K fd ps ds) (hd : Vals dvs ds)
    (hx : Passes CX X (fun _ _ _ => False)) (hg : Gl X x) (hm : X.mg x = some (.ref C)) (ha : PA X (e :: es) ta) (hdb : (x == ("__debug__" : Str)) = false := by decide)
    (he : starEach (e :: es) X.env = (false, eval e X.env) :: starEach es X.env := by rfl) (hpl : (backTo pos (starEach es X.env)).any (·.1) = false := by rfl) : PMk6 X (.Call (.Name x p) (e :: es) [] pos) (tMkO C sp dvs ta) := by
  intro pins s σ H Q I h
  obtain ⟨_, _, _, _, bm, _, _, _, _, _, _, _, _, _, _, hC, hbm⟩ := T.cls
  refine wpAny_Call_Name_kw (ld_glob I hg hm (PySem.W.callWith_K (h₀ := X.base) I.ok.mod.kin T.kC (thn (ha.run pos pins s σ H _ I h) fun us s1 z => ?_) he hpl) hdb)
  obtain ⟨vs, H1, I1, r1, hz, q1⟩ := z
  refine ⟨I1.kIn, ?_⟩
  show wpAny _ _ (call (.ref C) us) _ _ _
  obtain ⟨hp, g, dr, tk, os⟩ := s1
  generalize ea : hp.objs.size + 1 = a
  have le : hp.objs.size ≤ a := by omega
  have hq := q1 a (I1.hok.fresh le)
  have grow : ∀ b o, hp.get? b = some o → ((hp.push (PySem.W.kdv_tup us)).push (PySem.HandSPX.excO C hp.objs.size)).get? b = some o := fun b o z => Heap.get?_push_of_some _ (Heap.get?_push_of_some _ z)
  have there : ((hp.push (PySem.W.kdv_tup us)).push (PySem.HandSPX.excO C hp.objs.size)).get? a = some (PySem.HandSPX.excO C hp.objs.size) := by subst ea; heap_get
  have I2 : Inv X pins σ (upd H1 a (exo a C none)) ⟨(hp.push (PySem.W.kdv_tup us)).push (PySem.HandSPX.excO C hp.objs.size), g, dr, tk, os⟩ := I1.laid (t' := tk) grow le (exo_ok there)
  have r2 : Vals (V.ref a :: (vs ++ dvs)) (Value.ref a :: (us ++ ds)) := .cons rfl (r1.append hd)
  have fit : us.length ≤ sizeLine := by rw [← Paired.length r1, sizeLine_eq]; omega
  subst ea
  refine wpAny_call (PySem.HandSPX.call_own F.excBase_ValueError (fun Y => PySem.HandSPX.refsVE_contains Y bm hbm) (I1.kIn _ _ hC) (PySem.W.looks_findIn I1.kIn iC) (fun self => PySem.W.bind_fn I1.kIn self tI) fit
    (codeAny_mono (F1.run _ X.stack _ _ ⟨Value.ref (hp.objs.size + 1) :: us, []⟩ (Value.ref (hp.objs.size + 1) :: (us ++ ds)) _ _ (fun _ _ _ => False) (hr.make C us []) (I2.env0.make C us []) (hb _ (Value.ref (hp.objs.size + 1) :: us) I2.kIn (r2.length.symm.trans (F1.len _ _ _ _ hq))) r2 hq) fun r s2 z => ?_))
  match r, s2, z with
  | .error er, s2, z => exact hx pins σ _ _ er s2 I2 z
  | .ok .next, _, z => exact (show False from z).elim
  | .ok .brk, _, z => exact (show False from z).elim
  | .ok .cont, _, z => exact (show False from z).elim
  | .ok (.ret u), ⟨h2, g2, d2, t2, o2⟩, z =>
    obtain ⟨v, H2, os2, bare2, un2, hok2, rv, ev, d, fs, ea, ed, hd1, q2⟩ := z
    subst ev
    obtain ⟨t0, G, J, kG, ge, hoe, na⟩ := mk_end0 (d2 := d2) (t2 := t2) I1 le grow un2 hok2 os2 bare2 ea ed hd1
    refine ⟨rv, ⟨_, _, _, ⟨G, g2, d2, t2, o2⟩, _, .ref C, some d, rfl, J, kG, ge, hoe, ⟨rfl, rfl⟩, rfl, rfl, na, rfl, bare2, raises_own T.exC T.tyC, q2⟩, fun a1 o1 ws ea1 q3 q4 => ?_⟩
    cases ea1
    rw [show h2.get? (hp.objs.size + 1) = some o1 from q3] at hoe
    cases hoe
    cases q4
    rfl
end L2

set_option Elab.async false
set_option linter.all false
set_option maxRecDepth 100000
set_option maxHeartbeats 4000000
namespace K7
open PySem PySem.Spec PyProof.Rows L2 GX NdefX
def topS (i : Nat) : Stmt := PySem.Challenge.pw_guardrungs_k02_turned_and_hanging.main.body.getD i (.Pass ⟨0, 0, 0, 0⟩)
abbrev s_BadName_init : Stmt := inClass (topS 2) 0
abbrev s_BadFormula_init : Stmt := inClass (topS 3) 0
abbrev s_TooMany_init : Stmt := inClass (topS 4) 0
abbrev s_is_whole : Stmt := topS 6
abbrev s_is_bit : Stmt := topS 7
abbrev s_columns_of : Stmt := topS 8
abbrev s_is_name : Stmt := topS 16
abbrev s_is_formula : Stmt := topS 17
abbrev s__is_part : Stmt := topS 18
abbrev s_check_formula : Stmt := topS 19
abbrev s_leaves_of : Stmt := topS 20
abbrev s_has_edges : Stmt := topS 21
abbrev s_is_plain : Stmt := topS 22
abbrev s_check_plain : Stmt := topS 23
abbrev s_told_names : Stmt := topS 24
abbrev s_names_of : Stmt := topS 25
abbrev s_worked : Stmt := topS 26
abbrev s_bit_of : Stmt := topS 27
abbrev s__turned : Stmt := topS 28
abbrev s_turned : Stmt := topS 29
abbrev s__joined : Stmt := topS 30
abbrev s_all_of : Stmt := topS 31
abbrev s_any_of : Stmt := topS 32
abbrev s__column : Stmt := topS 34
abbrev s_hangs_on : Stmt := topS 35
abbrev s__law_numbers : Stmt := topS 37
abbrev s__law_draw : Stmt := topS 38
abbrev s__law_int : Stmt := topS 39
abbrev s__law_all_rows : Stmt := topS 40
abbrev s__law_pool : Stmt := topS 41
abbrev s__law_leaf : Stmt := topS 42
abbrev s__law_formula : Stmt := topS 43
abbrev s__law_worth : Stmt := topS 44
abbrev s__law_turned : Stmt := topS 45
abbrev s__law_names : Stmt := topS 46
abbrev s__law_deep : Stmt := topS 47
abbrev s__law_word : Stmt := topS 48
abbrev s__law_bits_right : Stmt := topS 49
abbrev s__law_lacking_right : Stmt := topS 50
abbrev s__law_joint_right : Stmt := topS 51
abbrev s__law_refused_right : Stmt := topS 52
abbrev s__law_closed_right : Stmt := topS 53
abbrev s__law_depths_right : Stmt := topS 54
abbrev s_law : Stmt := topS 55
theorem ns_BadName_init : NScope ["self", "name", "__class__"] ["self", "name"] ["__class__"] (defScope s_BadName_init) := ⟨rfl, rfl, rfl, by decide +kernel, rfl, by decide +kernel, by decide +kernel, by decide +kernel, by decide +kernel⟩
theorem ns_BadFormula_init : NScope ["self", "__class__"] ["self"] ["__class__"] (defScope s_BadFormula_init) := ⟨rfl, rfl, rfl, by decide +kernel, rfl, by decide +kernel, by decide +kernel, by decide +kernel, by decide +kernel⟩
theorem ns_TooMany_init : NScope ["self", "limit", "__class__"] ["self", "limit"] ["__class__"] (defScope s_TooMany_init) := ⟨rfl, rfl, rfl, by decide +kernel, rfl, by decide +kernel, by decide +kernel, by decide +kernel, by decide +kernel⟩
abbrev n_is_whole : List Str := ["value", "least", "most"]
theorem sc_is_whole : FnScope n_is_whole ["value", "least", "most"] (defScope s_is_whole) := ⟨rfl, rfl, rfl, by decide +kernel, rfl, by decide +kernel, by decide +kernel⟩
abbrev n_is_bit : List Str := ["value"]
theorem sc_is_bit : FnScope n_is_bit ["value"] (defScope s_is_bit) := ⟨rfl, rfl, rfl, by decide +kernel, rfl, by decide +kernel, by decide +kernel⟩
abbrev n_columns_of : List Str := ["many", "columns", "place", "run", "column", "width"]
theorem sc_columns_of : FnScope n_columns_of ["many"] (defScope s_columns_of) := ⟨rfl, rfl, rfl, by decide +kernel, rfl, by decide +kernel, by decide +kernel⟩
abbrev n_is_name : List Str := ["value", "sign"]
theorem sc_is_name : FnScope n_is_name ["value"] (defScope s_is_name) := ⟨rfl, rfl, rfl, by decide +kernel, rfl, by decide +kernel, by decide +kernel⟩
abbrev n_is_formula : List Str := ["value", "names", "depth", "level", "_", "below", "part"]
theorem sc_is_formula : FnScope n_is_formula ["value", "names", "depth"] (defScope s_is_formula) := ⟨rfl, rfl, rfl, by decide +kernel, rfl, by decide +kernel, by decide +kernel⟩
abbrev n__is_part : List Str := ["part", "names", "kind", "inside"]
theorem sc__is_part : FnScope n__is_part ["part", "names"] (defScope s__is_part) := ⟨rfl, rfl, rfl, by decide +kernel, rfl, by decide +kernel, by decide +kernel⟩
abbrev n_check_formula : List Str := ["formula"]
theorem sc_check_formula : FnScope n_check_formula ["formula"] (defScope s_check_formula) := ⟨rfl, rfl, rfl, by decide +kernel, rfl, by decide +kernel, by decide +kernel⟩
abbrev n_leaves_of : List Str := ["formula", "found", "left", "part"]
theorem sc_leaves_of : FnScope n_leaves_of ["formula"] (defScope s_leaves_of) := ⟨rfl, rfl, rfl, by decide +kernel, rfl, by decide +kernel, by decide +kernel⟩
abbrev n_has_edges : List Str := ["formula", "leaf"]
theorem sc_has_edges : FnScope n_has_edges ["formula"] (defScope s_has_edges) := ⟨rfl, rfl, rfl, by decide +kernel, rfl, by decide +kernel, by decide +kernel⟩
abbrev n_is_plain : List Str := ["formula"]
theorem sc_is_plain : FnScope n_is_plain ["formula"] (defScope s_is_plain) := ⟨rfl, rfl, rfl, by decide +kernel, rfl, by decide +kernel, by decide +kernel⟩
abbrev n_check_plain : List Str := ["formula"]
theorem sc_check_plain : FnScope n_check_plain ["formula"] (defScope s_check_plain) := ⟨rfl, rfl, rfl, by decide +kernel, rfl, by decide +kernel, by decide +kernel⟩
abbrev n_told_names : List Str := ["formula", "leaf"]
theorem sc_told_names : FnScope n_told_names ["formula"] (defScope s_told_names) := ⟨rfl, rfl, rfl, by decide +kernel, rfl, by decide +kernel, by decide +kernel⟩
abbrev n_names_of : List Str := ["formula"]
theorem sc_names_of : FnScope n_names_of ["formula"] (defScope s_names_of) := ⟨rfl, rfl, rfl, by decide +kernel, rfl, by decide +kernel, by decide +kernel⟩
abbrev n_worked : List Str := ["formula", "bits", "seen", "full", "kind", "inside", "column", "part"]
theorem sc_worked : FnScope n_worked ["formula", "bits", "seen", "full"] (defScope s_worked) := ⟨rfl, rfl, rfl, by decide +kernel, rfl, by decide +kernel, by decide +kernel⟩
abbrev n_bit_of : List Str := ["formula", "bits", "name"]
theorem sc_bit_of : FnScope n_bit_of ["formula", "bits"] (defScope s_bit_of) := ⟨rfl, rfl, rfl, by decide +kernel, rfl, by decide +kernel, by decide +kernel⟩
abbrev n__turned : List Str := ["formula", "kind", "inside", "part"]
theorem sc__turned : FnScope n__turned ["formula"] (defScope s__turned) := ⟨rfl, rfl, rfl, by decide +kernel, rfl, by decide +kernel, by decide +kernel⟩
abbrev n_turned : List Str := ["formula", "other"]
theorem sc_turned : FnScope n_turned ["formula"] (defScope s_turned) := ⟨rfl, rfl, rfl, by decide +kernel, rfl, by decide +kernel, by decide +kernel⟩
abbrev n__joined : List Str := ["joint", "formulas", "bit", "formula", "whole"]
theorem sc__joined : FnScope n__joined ["joint", "formulas", "bit"] (defScope s__joined) := ⟨rfl, rfl, rfl, by decide +kernel, rfl, by decide +kernel, by decide +kernel⟩
abbrev n_all_of : List Str := ["formulas"]
theorem sc_all_of : FnScope n_all_of ["formulas"] (defScope s_all_of) := ⟨rfl, rfl, rfl, by decide +kernel, rfl, by decide +kernel, by decide +kernel⟩
abbrev n_any_of : List Str := ["formulas"]
theorem sc_any_of : FnScope n_any_of ["formulas"] (defScope s_any_of) := ⟨rfl, rfl, rfl, by decide +kernel, rfl, by decide +kernel, by decide +kernel⟩
abbrev n__column : List Str := ["formula", "order", "bits", "name", "column"]
theorem sc__column : FnScope n__column ["formula", "order"] (defScope s__column) := ⟨rfl, rfl, rfl, by decide +kernel, rfl, by decide +kernel, by decide +kernel⟩
abbrev n_hangs_on : List Str := ["formula", "name", "names", "order", "other", "column", "half"]
theorem sc_hangs_on : FnScope n_hangs_on ["formula", "name"] (defScope s_hangs_on) := ⟨rfl, rfl, rfl, by decide +kernel, rfl, by decide +kernel, by decide +kernel⟩
abbrev n__law_numbers : List Str := ["script", "numbers", "place", "cell", "flipped", "turn", "seed"]
theorem sc__law_numbers : FnScope n__law_numbers ["script"] (defScope s__law_numbers) := ⟨rfl, rfl, rfl, by decide +kernel, rfl, by decide +kernel, by decide +kernel⟩
abbrev n__law_draw : List Str := ["numbers", "many"]
theorem sc__law_draw : FnScope n__law_draw ["numbers", "many"] (defScope s__law_draw) := ⟨rfl, rfl, rfl, by decide +kernel, rfl, by decide +kernel, by decide +kernel⟩
abbrev n__law_int : List Str := ["value"]
theorem sc__law_int : FnScope n__law_int ["value"] (defScope s__law_int) := ⟨rfl, rfl, rfl, by decide +kernel, rfl, by decide +kernel, by decide +kernel⟩
abbrev n__law_all_rows : List Str := ["many", "rows", "k", "longer", "row"]
theorem sc__law_all_rows : FnScope n__law_all_rows ["many"] (defScope s__law_all_rows) := ⟨rfl, rfl, rfl, by decide +kernel, rfl, by decide +kernel, by decide +kernel⟩
abbrev n__law_pool : List Str := ["numbers", "total", "letters", "pool", "k", "name", "word"]
theorem sc__law_pool : FnScope n__law_pool ["numbers", "total"] (defScope s__law_pool) := ⟨rfl, rfl, rfl, by decide +kernel, rfl, by decide +kernel, by decide +kernel⟩
abbrev n__law_leaf : List Str := ["numbers", "names", "edges", "word", "name"]
theorem sc__law_leaf : FnScope n__law_leaf ["numbers", "names", "edges"] (defScope s__law_leaf) := ⟨rfl, rfl, rfl, by decide +kernel, rfl, by decide +kernel, by decide +kernel⟩
abbrev n__law_formula : List Str := ["numbers", "names", "edges", "formula", "turn", "other", "word"]
theorem sc__law_formula : FnScope n__law_formula ["numbers", "names", "edges"] (defScope s__law_formula) := ⟨rfl, rfl, rfl, by decide +kernel, rfl, by decide +kernel, by decide +kernel⟩
abbrev n__law_worth : List Str := ["formula", "bits", "seen", "todo", "order", "turn", "part", "piece", "worths", "word", "ones"]
theorem sc__law_worth : FnScope n__law_worth ["formula", "bits", "seen"] (defScope s__law_worth) := ⟨rfl, rfl, rfl, by decide +kernel, rfl, by decide +kernel, by decide +kernel⟩
abbrev n__law_turned : List Str := ["formula", "todo", "parts", "turn", "part", "piece", "done", "pieces"]
theorem sc__law_turned : FnScope n__law_turned ["formula"] (defScope s__law_turned) := ⟨rfl, rfl, rfl, by decide +kernel, rfl, by decide +kernel, by decide +kernel⟩
abbrev n__law_names : List Str := ["formula", "todo", "names", "turn", "part", "piece"]
theorem sc__law_names : FnScope n__law_names ["formula"] (defScope s__law_names) := ⟨rfl, rfl, rfl, by decide +kernel, rfl, by decide +kernel, by decide +kernel⟩
abbrev n__law_deep : List Str := ["numbers", "leaf", "other", "depth", "formula", "turn", "word"]
theorem sc__law_deep : FnScope n__law_deep ["numbers", "leaf", "other", "depth"] (defScope s__law_deep) := ⟨rfl, rfl, rfl, by decide +kernel, rfl, by decide +kernel, by decide +kernel⟩
abbrev n__law_word : List Str := ["turn", "formula", "second", "told", "wrong"]
theorem sc__law_word : FnScope n__law_word ["turn", "formula", "second"] (defScope s__law_word) := ⟨rfl, rfl, rfl, by decide +kernel, rfl, by decide +kernel, by decide +kernel⟩
abbrev n__law_bits_right : List Str := ["formula", "names", "others", "negated", "told", "rows", "dues", "row", "bits", "due", "bit", "hung", "stride", "k", "place", "name", "hangs"]
theorem sc__law_bits_right : FnScope n__law_bits_right ["formula", "names", "others"] (defScope s__law_bits_right) := ⟨rfl, rfl, rfl, by decide +kernel, rfl, by decide +kernel, by decide +kernel⟩
abbrev n__law_lacking_right : List Str := ["numbers", "formula", "names", "others", "bits", "name", "lacking", "kept"]
theorem sc__law_lacking_right : FnScope n__law_lacking_right ["numbers", "formula", "names", "others"] (defScope s__law_lacking_right) := ⟨rfl, rfl, rfl, by decide +kernel, rfl, by decide +kernel, by decide +kernel⟩
abbrev n__law_joint_right : List Str := ["parts", "part", "five"]
theorem sc__law_joint_right : FnScope n__law_joint_right ["parts"] (defScope s__law_joint_right) := ⟨rfl, rfl, rfl, by decide +kernel, rfl, by decide +kernel, by decide +kernel⟩
abbrev n__law_refused_right : List Str := ["name", "other", "leaf", "edge", "turn", "bad", "wrong", "pair"]
theorem sc__law_refused_right : FnScope n__law_refused_right ["name", "other", "leaf"] (defScope s__law_refused_right) := ⟨rfl, rfl, rfl, by decide +kernel, rfl, by decide +kernel, by decide +kernel⟩
abbrev n__law_closed_right : List Str := ["x", "y", "a", "b", "both", "formula", "names"]
theorem sc__law_closed_right : FnScope n__law_closed_right ["x", "y"] (defScope s__law_closed_right) := ⟨rfl, rfl, rfl, by decide +kernel, rfl, by decide +kernel, by decide +kernel⟩
abbrev n__law_depths_right : List Str := ["numbers", "name", "other", "here", "away", "depth", "over", "under", "due", "turn"]
theorem sc__law_depths_right : FnScope n__law_depths_right ["numbers", "name", "other"] (defScope s__law_depths_right) := ⟨rfl, rfl, rfl, by decide +kernel, rfl, by decide +kernel, by decide +kernel⟩
abbrev n_law : List Str := ["script", "numbers", "pool", "formula", "names", "others", "name", "turn", "parts", "ten", "eleven"]
theorem sc_law : FnScope n_law ["script"] (defScope s_law) := ⟨rfl, rfl, rfl, by decide +kernel, rfl, by decide +kernel, by decide +kernel⟩
end K7

set_option Elab.async false
set_option linter.all false
set_option maxRecDepth 100000
set_option maxHeartbeats 4000000
namespace K7
open PySem PySem.Spec PyProof.Rows L2 GX NdefX
/-- the built-in names are still the built-ins -/
structure Bl (mg : Str → Option Value) : Prop where
  all : mg "all" = none
  any : mg "any" = none
  bool : mg "bool" = none
  dict : mg "dict" = none
  int : mg "int" = none
  isinstance : mg "isinstance" = none
  len : mg "len" = none
  list : mg "list" = none
  max : mg "max" = none
  min : mg "min" = none
  range : mg "range" = none
  repr : mg "repr" = none
  sorted : mg "sorted" = none
  str : mg "str" = none
  tuple : mg "tuple" = none
  zip : mg "zip" = none
/-- a def of the top: where it stands, how it is called -/
structure Kn (K : PySem.W.Frag) (mg : Str → Option Value) (x : Str) (st : Stmt) (ps : List Str) where
  f : Addr
  fd : FuncData
  F : Fun K x x st f fd
  b : Binds K fd ps []
  g : mg x = some (.ref f)
/-- a def of the top with a star parameter alone -/
structure Ks (K : PySem.W.Frag) (mg : Str → Option Value) (x : Str) (st : Stmt) (pv : Str) where
  f : Addr
  fd : FuncData
  F : Fun K x x st f fd
  b : ∀ us rest : List Value, us.length = ([] : List Str).length → bindArgs fd ⟨us ++ rest, []⟩ = (newTuple rest >>= fun t => pure (([] : List Str).zip us ++ [(pv, t)]))
  g : mg x = some (.ref f)
/-- an exception class of the top -/
structure Ke (P : Program) (K : PySem.W.Frag) (mg : Str → Option Value) (x q : Str) (st : Stmt) (ps fs : List Str) where
  C : Addr
  f : Addr
  fd : FuncData
  T : Sup P K mg C f q st fd
  b : Binds K fd ps []
  nf : ∀ y ∈ fs, PySem.W.findIn K (.ref C) y = some none
  g : mg x = some (.ref C)
  X : XfC K C
/-- a def with defaults dvs, called without the last of them -/
structure KnD (K : PySem.W.Frag) (mg : Str → Option Value) (x : Str) (st : Stmt) (ps : List Str) (dvs : List V) where
  f : Addr
  fd : FuncData
  ds : List Value
  F : FunD K x x (defArgs st) (defBody st) (defScope st) dvs [] f fd
  b : Binds K fd ps ds
  v : Vals dvs ds
  g : mg x = some (.ref f)
/-- an exception class of the top without own defs -/
structure Ka (mg : Str → Option Value) (x : Str) where
  C : Addr
  g : mg x = some (.ref C)
/-- the whole top -/
structure Pr (P : Program) (K : PySem.W.Frag) (mg : Str → Option Value) where
  B : Bl mg
  BadName : Ke P K mg "BadName" "BadName.__init__" s_BadName_init ["self", "name"] ["name"]
  BadFormula : Ke P K mg "BadFormula" "BadFormula.__init__" s_BadFormula_init ["self"] []
  TooMany : Ke P K mg "TooMany" "TooMany.__init__" s_TooMany_init ["self", "limit"] ["limit"]
  x_BadName_BadName : PySem.W.exmOne K (.ref BadName.C) (.ref BadName.C) = some true
  x_BadName_BadFormula : PySem.W.exmOne K (.ref BadName.C) (.ref BadFormula.C) = some false
  x_BadName_TooMany : PySem.W.exmOne K (.ref BadName.C) (.ref TooMany.C) = some false
  x_BadFormula_BadName : PySem.W.exmOne K (.ref BadFormula.C) (.ref BadName.C) = some false
  x_BadFormula_BadFormula : PySem.W.exmOne K (.ref BadFormula.C) (.ref BadFormula.C) = some true
  x_BadFormula_TooMany : PySem.W.exmOne K (.ref BadFormula.C) (.ref TooMany.C) = some false
  x_TooMany_BadName : PySem.W.exmOne K (.ref TooMany.C) (.ref BadName.C) = some false
  x_TooMany_BadFormula : PySem.W.exmOne K (.ref TooMany.C) (.ref BadFormula.C) = some false
  x_TooMany_TooMany : PySem.W.exmOne K (.ref TooMany.C) (.ref TooMany.C) = some true
  a_RungsError : Ka mg "RungsError"
  x_BadName_RungsError : PySem.W.exmOne K (.ref BadName.C) (.ref a_RungsError.C) = some true
  x_BadFormula_RungsError : PySem.W.exmOne K (.ref BadFormula.C) (.ref a_RungsError.C) = some true
  x_TooMany_RungsError : PySem.W.exmOne K (.ref TooMany.C) (.ref a_RungsError.C) = some true
  k_LETTERS : ∃ t, mg "LETTERS" = some (.str "abcdefghijklmnopqrstuvwxyz" t)
  k_SIGNS : ∃ t, mg "SIGNS" = some (.str "abcdefghijklmnopqrstuvwxyz0123456789." t)
  k_WORDS : ∃ a, mg "WORDS" = some (.ref a) ∧ ∀ H : Hp, SqT K H a [.str "not", .str "and", .str "or", .str "rise", .str "fall"]
  k_EDGES : ∃ a, mg "EDGES" = some (.ref a) ∧ ∀ H : Hp, SqT K H a [.str "rise", .str "fall"]
  k_JOINTS : ∃ a, mg "JOINTS" = some (.ref a) ∧ ∀ H : Hp, SqT K H a [.str "and", .str "or"]
  k_DEEPEST : ∃ t, mg "DEEPEST" = some (.int 40 t)
  is_formula : KnD K mg "is_formula" s_is_formula ["value", "names", "depth"] [.non, .int 40]
  is_whole : Kn K mg "is_whole" s_is_whole ["value", "least", "most"]
  is_bit : Kn K mg "is_bit" s_is_bit ["value"]
  columns_of : Kn K mg "columns_of" s_columns_of ["many"]
  is_name : Kn K mg "is_name" s_is_name ["value"]
  _is_part : Kn K mg "_is_part" s__is_part ["part", "names"]
  check_formula : Kn K mg "check_formula" s_check_formula ["formula"]
  leaves_of : Kn K mg "leaves_of" s_leaves_of ["formula"]
  has_edges : Kn K mg "has_edges" s_has_edges ["formula"]
  is_plain : Kn K mg "is_plain" s_is_plain ["formula"]
  check_plain : Kn K mg "check_plain" s_check_plain ["formula"]
  told_names : Kn K mg "told_names" s_told_names ["formula"]
  names_of : Kn K mg "names_of" s_names_of ["formula"]
  worked : Kn K mg "worked" s_worked ["formula", "bits", "seen", "full"]
  bit_of : Kn K mg "bit_of" s_bit_of ["formula", "bits"]
  _turned : Kn K mg "_turned" s__turned ["formula"]
  turned : Kn K mg "turned" s_turned ["formula"]
  _joined : Kn K mg "_joined" s__joined ["joint", "formulas", "bit"]
  all_of : Ks K mg "all_of" s_all_of "formulas"
  any_of : Ks K mg "any_of" s_any_of "formulas"
  _column : Kn K mg "_column" s__column ["formula", "order"]
  hangs_on : Kn K mg "hangs_on" s_hangs_on ["formula", "name"]
  _law_numbers : Kn K mg "_law_numbers" s__law_numbers ["script"]
  _law_draw : Kn K mg "_law_draw" s__law_draw ["numbers", "many"]
  _law_int : Kn K mg "_law_int" s__law_int ["value"]
  _law_all_rows : Kn K mg "_law_all_rows" s__law_all_rows ["many"]
  _law_pool : Kn K mg "_law_pool" s__law_pool ["numbers", "total"]
  _law_leaf : Kn K mg "_law_leaf" s__law_leaf ["numbers", "names", "edges"]
  _law_formula : Kn K mg "_law_formula" s__law_formula ["numbers", "names", "edges"]
  _law_worth : Kn K mg "_law_worth" s__law_worth ["formula", "bits", "seen"]
  _law_turned : Kn K mg "_law_turned" s__law_turned ["formula"]
  _law_names : Kn K mg "_law_names" s__law_names ["formula"]
  _law_deep : Kn K mg "_law_deep" s__law_deep ["numbers", "leaf", "other", "depth"]
  _law_word : Kn K mg "_law_word" s__law_word ["turn", "formula", "second"]
  _law_bits_right : Kn K mg "_law_bits_right" s__law_bits_right ["formula", "names", "others"]
  _law_lacking_right : Kn K mg "_law_lacking_right" s__law_lacking_right ["numbers", "formula", "names", "others"]
  _law_joint_right : Kn K mg "_law_joint_right" s__law_joint_right ["parts"]
  _law_refused_right : Kn K mg "_law_refused_right" s__law_refused_right ["name", "other", "leaf"]
  _law_closed_right : Kn K mg "_law_closed_right" s__law_closed_right ["x", "y"]
  _law_depths_right : Kn K mg "_law_depths_right" s__law_depths_right ["numbers", "name", "other"]
end K7

set_option Elab.async false
set_option linter.all false
set_option maxRecDepth 100000
set_option maxHeartbeats 4000000
namespace K7
open PySem PySem.Spec PyProof.Rows L2 GX NdefX
/-! ### formulas as trees -/
inductive Fm where
  | bit (b : Bool)
  | name (x : Str)
  | edge (r : Bool) (x : Str)
  | not (f : Fm)
  | joint (w : Bool) (fs : List Fm)
def eK (r : Bool) : Str := if r then "rise" else "fall"
def jK (w : Bool) : Str := if w then "or" else "and"
mutual
def Fm.data : Fm → PyData
  | .bit b => .tuple [.str "bit", .int (if b then 1 else 0)]
  | .name x => .tuple [.str "name", .str x]
  | .edge r x => .tuple [.str (eK r), .str x]
  | .not f => .tuple [.str "not", f.data]
  | .joint w fs => .tuple [.str (jK w), .tuple (dataL fs)]
def dataL : List Fm → List PyData
  | [] => []
  | f :: r => f.data :: dataL r
end
theorem dataL_map (l : List Fm) : dataL l = l.map Fm.data := by
  induction l with
  | nil => rfl
  | cons f r ih => rw [dataL, ih, List.map_cons]
mutual
/-- how deep -/
def Fm.dep : Fm → Nat
  | .not f => f.dep + 1
  | .joint _ fs => depL fs + 1
  | _ => 1
def depL : List Fm → Nat
  | [] => 0
  | f :: r => max f.dep (depL r)
end
mutual
/-- how many -/
def Fm.cnt : Fm → Nat
  | .not f => f.cnt + 1
  | .joint _ fs => cntL fs + 1
  | _ => 1
def cntL : List Fm → Nat
  | [] => 0
  | f :: r => f.cnt + cntL r
end
def Fm.subs : Fm → List Fm
  | .not f => [f]
  | .joint _ fs => fs
  | _ => []
theorem Fm.dep_pos (f : Fm) : 1 ≤ f.dep := by cases f <;> simp [Fm.dep]
theorem Fm.cnt_pos (f : Fm) : 1 ≤ f.cnt := by cases f <;> simp [Fm.cnt]
theorem depL_le {l : List Fm} {n : Nat} : depL l ≤ n ↔ ∀ f ∈ l, f.dep ≤ n := by
  induction l with
  | nil => simp [depL]
  | cons f r ih => simp only [depL, List.mem_cons, forall_eq_or_imp, ← ih]; omega
theorem dep_subs {f : Fm} {n : Nat} : f.dep ≤ n + 1 ↔ ∀ g ∈ f.subs, g.dep ≤ n := by
  cases f with
  | not g => simp [Fm.dep, Fm.subs]
  | joint w fs => simp only [Fm.dep, Fm.subs, ← depL_le]; omega
  | _ => simp [Fm.dep, Fm.subs]
theorem cnt_subs (f : Fm) : cntL f.subs + 1 = f.cnt := by
  cases f <;> simp [Fm.cnt, Fm.subs, cntL]
theorem cntL_app (a b : List Fm) : cntL (a ++ b) = cntL a + cntL b := by
  induction a with
  | nil => simp [cntL]
  | cons f r ih => simp only [List.cons_append, cntL, ih]; omega
theorem cntL_mem {l : List Fm} {f : Fm} (h : f ∈ l) : f.cnt ≤ cntL l := by
  induction l with
  | nil => simp at h
  | cons g r ih =>
    rcases List.mem_cons.mp h with e | e
    · subst e; simp only [cntL]; omega
    · have := ih e; simp only [cntL]; omega
/-! ### names -/
def letters : Str := "abcdefghijklmnopqrstuvwxyz"
def signs : Str := "abcdefghijklmnopqrstuvwxyz0123456789."
def wordsS : List Str := ["not", "and", "or", "rise", "fall"]
def nameB (z : Str) : Bool :=
  (decide (1 ≤ z.cps.size) && decide (z.cps.size ≤ 40) && !wordsS.any (fun y => decide (z = y))) &&
  (z.cps.toList.head?.any (fun c => decide (c ∈ letters.cps.toList)) && z.cps.toList.getLast?.all (fun c => decide (c ≠ 46)) && z.cps.toList.all (fun c => decide (c ∈ signs.cps.toList)))
mutual
/-- what the program asks of a formula -/
def Fm.ok : Fm → Bool
  | .bit _ => true
  | .name x => nameB x
  | .edge _ x => nameB x
  | .not f => f.ok
  | .joint _ fs => decide (2 ≤ fs.length) && okL fs
def okL : List Fm → Bool
  | [] => true
  | f :: r => f.ok && okL r
end
theorem okL_all {l : List Fm} : okL l = true ↔ ∀ f ∈ l, f.ok = true := by
  induction l with
  | nil => simp [okL]
  | cons f r ih => simp [okL, ih]
theorem ok_subs {f : Fm} (h : f.ok = true) : ∀ g ∈ f.subs, g.ok = true := by
  cases f with
  | not g => simpa [Fm.ok, Fm.subs] using h
  | joint w fs =>
    simp only [Fm.ok, Bool.and_eq_true] at h
    exact okL_all.mp h.2
  | _ => simp [Fm.subs]
/-! ### is_formula on any data -/
def nameD : PyData → Bool
  | .str z => nameB z
  | _ => false
def bitD : PyData → Bool
  | .int i => decide (0 ≤ i ∧ i ≤ 1)
  | _ => false
def manyD : PyData → Bool
  | .tuple xs => decide (1 < xs.length)
  | _ => false
def partK (k : Str) (x : PyData) : Bool :=
  if k = "not" then true else if k = "and" ∨ k = "or" then manyD x else if k = "bit" then bitD x else if k = "name" ∨ k = "rise" ∨ k = "fall" then nameD x else false
def partD : PyData → Bool
  | .tuple [.str k, x] => partK k x
  | _ => false
/-- a tuple of two has a text in front, and beside "bit" a whole number or a bool -/
def domD : PyData → Bool
  | .tuple [.str k, x] => (k != "bit") || (match x with | .int _ => true | .bool _ => true | _ => false)
  | .tuple [_, _] => false
  | .dict _ => false
  | _ => true
def itemsD : PyData → List PyData
  | .tuple xs => xs
  | _ => []
def belowD : PyData → List PyData
  | .tuple [.str k, x] => if k = "not" then [x] else if k = "and" ∨ k = "or" then itemsD x else []
  | _ => []
def formL : Nat → List PyData → Bool
  | 0, _ => false
  | n + 1, l => l.all partD && (if l.flatMap belowD = [] then true else formL n (l.flatMap belowD))
def domL : Nat → List PyData → Bool
  | 0, _ => true
  | n + 1, l => l.all domD && (!l.all partD || domL n (l.flatMap belowD))
@[simp] theorem kn_not_and : ((Str.ofString "not" : Str) = Str.ofString "and") = False := eq_false (by decide +kernel)
@[simp] theorem kn_not_or : ((Str.ofString "not" : Str) = Str.ofString "or") = False := eq_false (by decide +kernel)
@[simp] theorem kn_not_bit : ((Str.ofString "not" : Str) = Str.ofString "bit") = False := eq_false (by decide +kernel)
@[simp] theorem kn_not_name : ((Str.ofString "not" : Str) = Str.ofString "name") = False := eq_false (by decide +kernel)
@[simp] theorem kn_not_rise : ((Str.ofString "not" : Str) = Str.ofString "rise") = False := eq_false (by decide +kernel)
@[simp] theorem kn_not_fall : ((Str.ofString "not" : Str) = Str.ofString "fall") = False := eq_false (by decide +kernel)
@[simp] theorem kn_and_not : ((Str.ofString "and" : Str) = Str.ofString "not") = False := eq_false (by decide +kernel)
@[simp] theorem kn_and_or : ((Str.ofString "and" : Str) = Str.ofString "or") = False := eq_false (by decide +kernel)
@[simp] theorem kn_and_bit : ((Str.ofString "and" : Str) = Str.ofString "bit") = False := eq_false (by decide +kernel)
@[simp] theorem kn_and_name : ((Str.ofString "and" : Str) = Str.ofString "name") = False := eq_false (by decide +kernel)
@[simp] theorem kn_and_rise : ((Str.ofString "and" : Str) = Str.ofString "rise") = False := eq_false (by decide +kernel)
@[simp] theorem kn_and_fall : ((Str.ofString "and" : Str) = Str.ofString "fall") = False := eq_false (by decide +kernel)
@[simp] theorem kn_or_not : ((Str.ofString "or" : Str) = Str.ofString "not") = False := eq_false (by decide +kernel)
@[simp] theorem kn_or_and : ((Str.ofString "or" : Str) = Str.ofString "and") = False := eq_false (by decide +kernel)
@[simp] theorem kn_or_bit : ((Str.ofString "or" : Str) = Str.ofString "bit") = False := eq_false (by decide +kernel)
@[simp] theorem kn_or_name : ((Str.ofString "or" : Str) = Str.ofString "name") = False := eq_false (by decide +kernel)
@[simp] theorem kn_or_rise : ((Str.ofString "or" : Str) = Str.ofString "rise") = False := eq_false (by decide +kernel)
@[simp] theorem kn_or_fall : ((Str.ofString "or" : Str) = Str.ofString "fall") = False := eq_false (by decide +kernel)
@[simp] theorem kn_bit_not : ((Str.ofString "bit" : Str) = Str.ofString "not") = False := eq_false (by decide +kernel)
@[simp] theorem kn_bit_and : ((Str.ofString "bit" : Str) = Str.ofString "and") = False := eq_false (by decide +kernel)
@[simp] theorem kn_bit_or : ((Str.ofString "bit" : Str) = Str.ofString "or") = False := eq_false (by decide +kernel)
@[simp] theorem kn_bit_name : ((Str.ofString "bit" : Str) = Str.ofString "name") = False := eq_false (by decide +kernel)
@[simp] theorem kn_bit_rise : ((Str.ofString "bit" : Str) = Str.ofString "rise") = False := eq_false (by decide +kernel)
@[simp] theorem kn_bit_fall : ((Str.ofString "bit" : Str) = Str.ofString "fall") = False := eq_false (by decide +kernel)
@[simp] theorem kn_name_not : ((Str.ofString "name" : Str) = Str.ofString "not") = False := eq_false (by decide +kernel)
@[simp] theorem kn_name_and : ((Str.ofString "name" : Str) = Str.ofString "and") = False := eq_false (by decide +kernel)
@[simp] theorem kn_name_or : ((Str.ofString "name" : Str) = Str.ofString "or") = False := eq_false (by decide +kernel)
@[simp] theorem kn_name_bit : ((Str.ofString "name" : Str) = Str.ofString "bit") = False := eq_false (by decide +kernel)
@[simp] theorem kn_name_rise : ((Str.ofString "name" : Str) = Str.ofString "rise") = False := eq_false (by decide +kernel)
@[simp] theorem kn_name_fall : ((Str.ofString "name" : Str) = Str.ofString "fall") = False := eq_false (by decide +kernel)
@[simp] theorem kn_rise_not : ((Str.ofString "rise" : Str) = Str.ofString "not") = False := eq_false (by decide +kernel)
@[simp] theorem kn_rise_and : ((Str.ofString "rise" : Str) = Str.ofString "and") = False := eq_false (by decide +kernel)
@[simp] theorem kn_rise_or : ((Str.ofString "rise" : Str) = Str.ofString "or") = False := eq_false (by decide +kernel)
@[simp] theorem kn_rise_bit : ((Str.ofString "rise" : Str) = Str.ofString "bit") = False := eq_false (by decide +kernel)
@[simp] theorem kn_rise_name : ((Str.ofString "rise" : Str) = Str.ofString "name") = False := eq_false (by decide +kernel)
@[simp] theorem kn_rise_fall : ((Str.ofString "rise" : Str) = Str.ofString "fall") = False := eq_false (by decide +kernel)
@[simp] theorem kn_fall_not : ((Str.ofString "fall" : Str) = Str.ofString "not") = False := eq_false (by decide +kernel)
@[simp] theorem kn_fall_and : ((Str.ofString "fall" : Str) = Str.ofString "and") = False := eq_false (by decide +kernel)
@[simp] theorem kn_fall_or : ((Str.ofString "fall" : Str) = Str.ofString "or") = False := eq_false (by decide +kernel)
@[simp] theorem kn_fall_bit : ((Str.ofString "fall" : Str) = Str.ofString "bit") = False := eq_false (by decide +kernel)
@[simp] theorem kn_fall_name : ((Str.ofString "fall" : Str) = Str.ofString "name") = False := eq_false (by decide +kernel)
@[simp] theorem kn_fall_rise : ((Str.ofString "fall" : Str) = Str.ofString "rise") = False := eq_false (by decide +kernel)
theorem below_data (f : Fm) : belowD f.data = f.subs.map Fm.data := by
  cases f with
  | bit b => simp [Fm.data, belowD, Fm.subs]
  | name x => simp [Fm.data, belowD, Fm.subs]
  | edge r x => cases r <;> simp [Fm.data, belowD, Fm.subs, eK]
  | not g => simp [Fm.data, belowD, Fm.subs]
  | joint w fs => cases w <;> simp [Fm.data, belowD, Fm.subs, jK, itemsD, dataL_map]
theorem part_data {f : Fm} (h : f.ok = true) : partD f.data = true := by
  cases f with
  | bit b => cases b <;> simp [Fm.data, partD, partK, bitD]
  | name x => simp [Fm.data, partD, partK, nameD]; exact h
  | edge r x => cases r <;> (simp [Fm.data, partD, partK, nameD, eK]; exact h)
  | not g => simp [Fm.data, partD, partK]
  | joint w fs =>
    have h2 : 2 ≤ fs.length := by simp only [Fm.ok, Bool.and_eq_true, decide_eq_true_eq] at h; exact h.1
    cases w <;> (simp [Fm.data, partD, partK, jK, dataL_map, manyD]; omega)
theorem dom_data (f : Fm) : domD f.data = true := by
  cases f with
  | bit b => simp [Fm.data, domD]
  | name x => simp [Fm.data, domD, bne, BEq.beq]
  | edge r x => cases r <;> simp [Fm.data, domD, eK, bne, BEq.beq]
  | not g => simp [Fm.data, domD, bne, BEq.beq]
  | joint w fs => cases w <;> simp [Fm.data, domD, jK, bne, BEq.beq]
theorem below_list (l : List Fm) : (l.map Fm.data).flatMap belowD = (l.flatMap Fm.subs).map Fm.data := by
  induction l with
  | nil => rfl
  | cons f r ih => simp only [List.map_cons, List.flatMap_cons, ih, below_data, List.map_append]
theorem formL_data (n : Nat) : ∀ l : List Fm, l ≠ [] → (∀ f ∈ l, f.ok = true) → formL n (l.map Fm.data) = decide (depL l ≤ n) := by
  induction n with
  | zero =>
    intro l ne _
    cases l with
    | nil => exact absurd rfl ne
    | cons f r => exact (decide_eq_false (by have := f.dep_pos; simp only [depL]; omega)).symm
  | succ n ih =>
    intro l ne ok
    have allp : (l.map Fm.data).all partD = true := List.all_eq_true.mpr fun d m => by
      obtain ⟨f, mf, rfl⟩ := List.mem_map.mp m
      exact part_data (ok f mf)
    rw [formL, allp, Bool.true_and, below_list]
    by_cases e : l.flatMap Fm.subs = []
    · rw [e, List.map_nil, if_pos rfl]
      refine (decide_eq_true (depL_le.mpr fun f mf => dep_subs.mpr fun g mg => ?_)).symm
      have : g ∈ l.flatMap Fm.subs := List.mem_flatMap.mpr ⟨f, mf, mg⟩
      rw [e] at this; simp at this
    · rw [if_neg (by simpa using e), ih _ e fun g mg => ?_]
      · refine decide_eq_decide.mpr ⟨fun h => depL_le.mpr fun f mf => dep_subs.mpr fun g mg => depL_le.mp h g (List.mem_flatMap.mpr ⟨f, mf, mg⟩), fun h => depL_le.mpr fun g mg => ?_⟩
        obtain ⟨f, mf, mg⟩ := List.mem_flatMap.mp mg
        exact dep_subs.mp (depL_le.mp h f mf) g mg
      · obtain ⟨f, mf, mg⟩ := List.mem_flatMap.mp mg
        exact ok_subs (ok f mf) g mg
theorem domL_data (n : Nat) : ∀ l : List Fm, domL n (l.map Fm.data) = true := by
  induction n with
  | zero => intro l; rfl
  | succ n ih =>
    intro l
    have alld : (l.map Fm.data).all domD = true := List.all_eq_true.mpr fun d m => by
      obtain ⟨f, -, rfl⟩ := List.mem_map.mp m
      exact dom_data f
    rw [domL, alld, below_list, ih, Bool.or_true, Bool.true_and]
mutual
def wtD : PyData → Nat
  | .tuple xs => wtL xs + 1
  | .list xs => wtL xs + 1
  | _ => 1
def wtL : List PyData → Nat
  | [] => 0
  | d :: r => wtD d + wtL r
end
mutual
def strD : PyData → Bool
  | .str z => decide (z.cps.size ≤ 1000000)
  | .tuple xs => strL xs
  | .list xs => strL xs
  | _ => true
def strL : List PyData → Bool
  | [] => true
  | d :: r => strD d && strL r
end
theorem wtD_pos (d : PyData) : 1 ≤ wtD d := by cases d <;> simp [wtD]
theorem wtL_app (a b : List PyData) : wtL (a ++ b) = wtL a + wtL b := by
  induction a with
  | nil => simp [wtL]
  | cons f r ih => simp only [List.cons_append, wtL, ih]; omega
theorem wtL_len (l : List PyData) : l.length ≤ wtL l := by
  induction l with
  | nil => simp [wtL]
  | cons d r ih => have := wtD_pos d; simp only [List.length_cons, wtL]; omega
theorem strL_all {l : List PyData} : strL l = true ↔ ∀ d ∈ l, strD d = true := by
  induction l with
  | nil => simp [strL]
  | cons d r ih => simp [strL, ih]
/-- a part's two items -/
theorem part_inv {d : PyData} (h : partD d = true) : ∃ k x, d = .tuple [.str k, x] ∧ partK k x = true := by
  match d, h with
  | .tuple [.str k, x], h => exact ⟨k, x, rfl, h⟩
theorem many_inv {d : PyData} (h : manyD d = true) : ∃ xs, d = .tuple xs := by
  match d, h with
  | .tuple xs, _ => exact ⟨xs, rfl⟩
theorem partK_many {k : Str} {x : PyData} (h : partK k x = true) (e : k = "and" ∨ k = "or") : ∃ xs, x = .tuple xs := by
  unfold partK at h
  have n1 : ¬ k = "not" := by rcases e with e | e <;> simp [e]
  rw [if_neg n1, if_pos e] at h
  exact many_inv h
theorem wt_below (d : PyData) : wtL (belowD d) ≤ wtD d := by
  unfold belowD
  split
  · split
    · simp only [wtL, wtD]; omega
    · split
      · rename_i k x _ _
        cases x <;> simp only [itemsD, wtL, wtD] <;> omega
      · simp [wtL]
  · simp [wtL]
theorem wt_belowL (l : List PyData) : wtL (l.flatMap belowD) ≤ wtL l := by
  induction l with
  | nil => simp [wtL]
  | cons d r ih => have := wt_below d; simp only [List.flatMap_cons, wtL_app, wtL]; omega
theorem str_below {d : PyData} (h : strD d = true) : ∀ e ∈ belowD d, strD e = true := by
  unfold belowD
  split
  · rename_i k x
    have h2 : strD x = true := by
      simp only [strD, strL, Bool.and_eq_true] at h
      exact h.2.1
    split
    · intro e me; rw [List.mem_singleton.mp me]; exact h2
    · split
      · intro e me
        cases x with
        | tuple xs => simp only [strD] at h2; exact strL_all.mp h2 e me
        | _ => simp [itemsD] at me
      · simp
  · simp
/-! ### leaves -/
mutual
def Fm.lvs : Fm → List Fm
  | .not f => f.lvs
  | .joint _ fs => lvsL fs
  | .bit b => [.bit b]
  | .name x => [.name x]
  | .edge r x => [.edge r x]
def lvsL : List Fm → List Fm
  | [] => []
  | f :: r => f.lvs ++ lvsL r
end
theorem lvsL_app (a b : List Fm) : lvsL (a ++ b) = lvsL a ++ lvsL b := by
  induction a with
  | nil => rfl
  | cons f r ih => simp only [List.cons_append, lvsL, ih, List.append_assoc]
/-- a leaf as a dict's key -/
def Fm.key : Fm → List L2.Key
  | .bit b => [.inr "bit", .inl (if b then 1 else 0)]
  | .name x => [.inr "name", .inr x]
  | .edge r x => [.inr (eK r), .inr x]
  | _ => []
def Fm.isLeaf : Fm → Bool
  | .not _ => false
  | .joint _ _ => false
  | _ => true
mutual
theorem lvs_leaf : ∀ f : Fm, ∀ g ∈ f.lvs, g.isLeaf = true
  | .bit b, g, h => by simp only [Fm.lvs, List.mem_singleton] at h; subst h; rfl
  | .name x, g, h => by simp only [Fm.lvs, List.mem_singleton] at h; subst h; rfl
  | .edge r x, g, h => by simp only [Fm.lvs, List.mem_singleton] at h; subst h; rfl
  | .not f, g, h => lvs_leaf f g (by simpa only [Fm.lvs] using h)
  | .joint w fs, g, h => lvsL_leaf fs g (by simpa only [Fm.lvs] using h)
theorem lvsL_leaf : ∀ fs : List Fm, ∀ g ∈ lvsL fs, g.isLeaf = true
  | [], g, h => by simp [lvsL] at h
  | f :: r, g, h => by
    simp only [lvsL] at h
    rcases List.mem_append.mp h with h | h
    · exact lvs_leaf f g h
    · exact lvsL_leaf r g h
end
mutual
theorem lvs_ok : ∀ f : Fm, f.ok = true → ∀ g ∈ f.lvs, g.ok = true
  | .bit b, o, g, h => by simp only [Fm.lvs, List.mem_singleton] at h; subst h; exact o
  | .name x, o, g, h => by simp only [Fm.lvs, List.mem_singleton] at h; subst h; exact o
  | .edge r x, o, g, h => by simp only [Fm.lvs, List.mem_singleton] at h; subst h; exact o
  | .not f, o, g, h => lvs_ok f (by simpa only [Fm.ok] using o) g (by simpa only [Fm.lvs] using h)
  | .joint w fs, o, g, h => lvsL_ok fs (by simp only [Fm.ok, Bool.and_eq_true] at o; exact o.2) g (by simpa only [Fm.lvs] using h)
theorem lvsL_ok : ∀ fs : List Fm, okL fs = true → ∀ g ∈ lvsL fs, g.ok = true
  | [], _, g, h => by simp [lvsL] at h
  | f :: r, o, g, h => by
    simp only [lvsL] at h
    simp only [okL, Bool.and_eq_true] at o
    rcases List.mem_append.mp h with h | h
    · exact lvs_ok f o.1 g h
    · exact lvsL_ok r o.2 g h
end
mutual
theorem lvs_cnt : ∀ f : Fm, f.lvs.length ≤ f.cnt
  | .bit _ => by simp [Fm.lvs, Fm.cnt]
  | .name _ => by simp [Fm.lvs, Fm.cnt]
  | .edge _ _ => by simp [Fm.lvs, Fm.cnt]
  | .not f => by have := lvs_cnt f; simp only [Fm.lvs, Fm.cnt]; omega
  | .joint _ fs => by have := lvsL_cnt fs; simp only [Fm.lvs, Fm.cnt]; omega
theorem lvsL_cnt : ∀ fs : List Fm, (lvsL fs).length ≤ cntL fs
  | [] => by simp [lvsL]
  | f :: r => by have := lvs_cnt f; have := lvsL_cnt r; simp only [lvsL, cntL, List.length_append]; omega
end
theorem leaf_lvs {f : Fm} (h : f.isLeaf = true) : f.lvs = [f] ∧ f.subs = [] := by
  cases f <;> first | exact ⟨rfl, rfl⟩ | cases h
theorem subs_lvs {f : Fm} (h : f.isLeaf = false) : lvsL f.subs = f.lvs := by
  cases f with
  | not g => simp [Fm.subs, Fm.lvs, lvsL]
  | joint w fs => rfl
  | _ => cases h
/-- the keys of a dict that was put one more -/
theorem keys_put {κ : Type} [DecidableEq κ] (kvs : List (κ × V)) (k j : κ) (v : V) : j ∈ (putK kvs k v).map (·.1) ↔ j ∈ kvs.map (·.1) ∨ j = k := by
  unfold putK
  split
  · rename_i h
    obtain ⟨p, mp, ep⟩ := List.any_eq_true.mp h
    have ep := of_decide_eq_true ep
    have e : (kvs.map fun kv => if kv.1 = k then (kv.1, v) else kv).map (·.1) = kvs.map (·.1) := by
      rw [List.map_map]
      exact List.map_congr_left fun q _ => by show (if q.1 = k then (q.1, v) else q).1 = q.1; split <;> rfl
    rw [e]
    exact ⟨.inl, fun z => z.elim id fun e => List.mem_map.mpr ⟨p, mp, ep.trans e.symm⟩⟩
  · rw [List.map_append, List.mem_append]
    simp
theorem len_put {κ : Type} [DecidableEq κ] (kvs : List (κ × V)) (k : κ) (v : V) : (putK kvs k v).length ≤ kvs.length + 1 := by
  unfold putK
  split
  · rw [List.length_map]; omega
  · rw [List.length_append]; simp
end K7

set_option Elab.async false
set_option linter.all false
set_option maxRecDepth 100000
set_option maxHeartbeats 4000000
namespace K7
open PySem PySem.Spec PyProof.Rows L2 GX NdefX
/-! ### data that lie on the tracked heap -/
mutual
inductive Dh (H : Hp) : V → PyData → Prop
  | non : Dh H .non .none
  | bl (b : Bool) : Dh H (.bl b) (.bool b)
  | int (i : Int) : Dh H (.int i) (.int i)
  | str (x : Str) : Dh H (.str x) (.str x)
  | lst {a : Addr} {xs : List V} {ds : List PyData} : H a = some (.lst xs) → DhAll H xs ds → Dh H (.ref a) (.list ds)
  | tup {a : Addr} {xs : List V} {ds : List PyData} : H a = some (.tup xs) → DhAll H xs ds → Dh H (.ref a) (.tuple ds)
inductive DhAll (H : Hp) : List V → List PyData → Prop
  | nil : DhAll H [] []
  | cons {v : V} {vs : List V} {d : PyData} {ds : List PyData} : Dh H v d → DhAll H vs ds → DhAll H (v :: vs) (d :: ds)
end
mutual
theorem Dh.same {H H1 : Hp} (s : Same H H1) : ∀ (d : PyData) (v : V), Dh H v d → Dh H1 v d
  | .none, _, .non => .non
  | .bool _, _, .bl b => .bl b
  | .int _, _, .int i => .int i
  | .str _, _, .str x => .str x
  | .list ds, _, .lst e h => .lst (s _ _ e) (DhAll.same s ds _ h)
  | .tuple ds, _, .tup e h => .tup (s _ _ e) (DhAll.same s ds _ h)
theorem DhAll.same {H H1 : Hp} (s : Same H H1) : ∀ (ds : List PyData) (vs : List V), DhAll H vs ds → DhAll H1 vs ds
  | [], _, .nil => .nil
  | d :: ds, _, .cons h t => .cons (Dh.same s d _ h) (DhAll.same s ds _ t)
end
mutual
theorem Dh.dp {K : PySem.W.Frag} {H : Hp} : ∀ (d : PyData) (v : V), Dh H v d → Dp K H v d
  | .none, _, .non => .non
  | .bool _, _, .bl b => .bl b
  | .int _, _, .int i => .int i
  | .str _, _, .str x => .str x
  | .list ds, _, .lst e h => .lst (.inl (.inl e)) (DhAll.dp ds _ h)
  | .tuple ds, _, .tup e h => .tup (.inl (.inl e)) (DhAll.dp ds _ h)
theorem DhAll.dp {K : PySem.W.Frag} {H : Hp} : ∀ (ds : List PyData) (vs : List V), DhAll H vs ds → DpAll K H vs ds
  | [], _, .nil => .nil
  | d :: ds, _, .cons h t => .cons (Dh.dp d _ h) (DhAll.dp ds _ t)
end
theorem DhAll.length {H : Hp} : ∀ (ds : List PyData) (vs : List V), DhAll H vs ds → vs.length = ds.length
  | [], _, .nil => rfl
  | _ :: ds, _, .cons _ t => congrArg Nat.succ (DhAll.length ds _ t)
theorem DhAll.app {H : Hp} : ∀ (ds es : List PyData) (vs ws : List V), DhAll H vs ds → DhAll H ws es → DhAll H (vs ++ ws) (ds ++ es)
  | [], _, _, _, .nil, h => h
  | _ :: ds, es, _, ws, .cons h t, k => .cons h (DhAll.app ds es _ ws t k)
/-- the type's name -/
def tyN : PyData → String
  | .none => "NoneType"
  | .bool _ => "bool"
  | .int _ => "int"
  | .str _ => "str"
  | .list _ => "list"
  | .tuple _ => "tuple"
  | .dict _ => "dict"
def isStrD : PyData → Bool
  | .str _ => true
  | _ => false
def isTupD : PyData → Bool
  | .tuple _ => true
  | _ => false
theorem Dh.ty {K : PySem.W.Frag} {H : Hp} {v : V} {d : PyData} (h : Dh H v d) : TyX K H v (.type (tyN d)) := by
  cases h with
  | non => exact .base .non
  | bl b => exact .base (.bl b)
  | int i => exact .base (.int i)
  | str x => exact .base (.str x)
  | lst e _ => exact .base (.lst e)
  | tup e _ => exact .base (.tup e)
theorem kit_str {K : PySem.W.Frag} {H : Hp} {v : V} {d : PyData} (h : Dh H v d) : PySem.W.kitOne K (.type (tyN d)) (.type "str") = some (isStrD d) := by
  cases h <;> (simp only [tyN, isStrD]; exact kit_ty (by decide +kernel))
theorem kit_tup {K : PySem.W.Frag} {H : Hp} {v : V} {d : PyData} (h : Dh H v d) : PySem.W.kitOne K (.type (tyN d)) (.type "tuple") = some (isTupD d) := by
  cases h <;> (simp only [tyN, isTupD]; exact kit_ty (by decide +kernel))
theorem strEq (k y : Str) : decide (V.str k = V.str y) = decide (k = y) := decide_eq_decide.mpr ⟨fun e => V.str.inj e, fun e => e ▸ rfl⟩
theorem inStr (z : Str) (l : List Str) : inV (.str z) (l.map V.str) = l.any (fun y => decide (z = y)) := by
  unfold inV
  rw [List.any_map]
  congr 1
  funext y
  show eqV (.str y) (.str z) = _
  show (y == z) = decide (z = y)
  by_cases e : z = y
  · subst e; simp
  · rw [decide_eq_false e]
    exact beq_false_of_ne fun q => e q.symm
/-- [e for c in j], j a name that holds a text -/
def tMapStr (j c : Nat) (te : TE) : TE := fun σ H Q => ∃ (z : Str) (vals : Nat → V), σ[j]? = some (some (.str z)) ∧ z.cps.size ≤ 4000 ∧
  (∀ (i : Nat) (cc : Nat) (H2 : Hp) (Qk : VK), z.cps[i]? = some cc → Same H H2 → (∀ H4, Same H2 H4 → Qk (vals cc) H4) → te (σ.set c (some (.str ⟨#[cc]⟩))) H2 Qk) ∧
  ∀ D H', H D = none → Same H H' → H' D = some (.lst (z.cps.toList.map vals)) → Q (.ref D) H'
theorem map_getN (f : Nat → V) : ∀ xs : List Nat, (List.range xs.length).map (fun i => f (xs.getD i 0)) = xs.map f
  | [] => rfl
  | x :: r => by
    rw [List.length_cons, List.range_succ_eq_map, List.map_cons, List.map_map, List.map_cons]
    exact congrArg (f x :: ·) (map_getN f r)
theorem tMapStr_ok {j c : Nat} {te : TE} {σ : L2.St} {H : Hp} {Q : VK} (h : tMapStr j c te σ H Q) : tLc (iStr (tVar j)) (gName c) tYes te [c] σ H Q := by
  obtain ⟨z, vals, hj, hn, turn, done⟩ := h
  refine ⟨.str z, hj, z, rfl, fun D nD => lcMap (g := gName c) (te := te) (vs := [c]) (σ := σ) (n := z.cps.size) (fun i => vals (z.cps.toList.getD i 0)) nD hn (fun i H2 h s => h) (fun H2 s => Nat.le_refl _) (fun i x H2 H' Qk Qn h s y hk => ?_) (fun H2 s e => ?_)⟩
  · obtain ⟨e0, cc, hcc, rfl⟩ := y
    subst e0
    show wipe ((wipe σ [c]).set c (some (.str ⟨#[cc]⟩))) [c] = wipe σ [c] ∧ (if true = true then te ((wipe σ [c]).set c (some (.str ⟨#[cc]⟩))) H' Qk else Qn H')
    rw [wipe1, wipe2]
    refine ⟨rfl, iteT (turn i cc _ Qk hcc s fun H4 s4 => ?_)⟩
    have q := hk H4 s4
    have e : z.cps.toList.getD i 0 = cc := by
      rw [List.getD_eq_getElem?_getD, Array.getElem?_toList, hcc]
      rfl
    rw [e] at q
    exact q
  · refine done D H2 nD s ?_
    rw [e, ← Array.length_toList, map_getN]
theorem atI_last' {xs : List Nat} {c : Nat} (h : xs.getLast? = some c) : atI xs (-1) = some c := by
  rw [List.getLast?_eq_getElem?] at h
  unfold atI ixN
  have hl : 0 < xs.length := by
    cases xs with
    | nil => simp at h
    | cons _ _ => simp
  rw [if_neg (by omega), if_pos (by omega)]
  show xs[((-1 : Int) + (xs.length : Int)).toNat]? = some c
  rw [show ((-1 : Int) + (xs.length : Int)).toNat = xs.length - 1 by omega]
  exact h
theorem atI_head {xs : List Nat} {c : Nat} (h : xs.head? = some c) : atI xs 0 = some c := by
  cases xs with
  | nil => simp at h
  | cons x r =>
    exact (atI_nat (j := 0) (show (x :: r)[0]? = some x from rfl)).trans h
theorem str1_ne {c : Nat} (h : c ≠ 46) : (V.str ⟨#[c]⟩ : V) ≠ .str "." := fun e => by
  have e := V.str.inj e
  have e2 : (#[c] : Array Nat) = #[46] := congrArg Str.cps e
  exact h (by simpa using e2)
end K7

set_option Elab.async false
set_option linter.all false
set_option maxRecDepth 100000
set_option maxHeartbeats 4000000
namespace K7
open PySem PySem.Spec PyProof.Rows L2 GX NdefX
def spWhole : Sp := fun vs H Q _ => ∃ (x : V) (l m : Int), vs = [x, .int l, .int m] ∧ ((∃ i, x = .int i) ∨ ∃ b, x = .bl b) ∧ Q (.bl (wholeV l m x)) H
def spBit : Sp := fun vs H Q _ => ∃ (x : V), vs = [x] ∧ ((∃ i, x = .int i ∧ Q (.bl (decide (0 ≤ i ∧ i ≤ 1))) H) ∨ ∃ b, x = .bl b ∧ Q (.bl false) H)
def spName : Sp := fun vs H Q _ => ∃ (v : V) (d : PyData), vs = [v] ∧ Dh H v d ∧ (∀ z, d = .str z → z.cps.size ≤ 1000000) ∧ ∀ H1, Same H H1 → Q (.bl (nameD d)) H1
def spPart : Sp := fun vs H Q _ => ∃ (v : V) (d : PyData), vs = [v, .non] ∧ Dh H v d ∧ domD d = true ∧ (∀ k z, d = .tuple [k, .str z] → z.cps.size ≤ 1000000) ∧ ∀ H1, Same H H1 → Q (.bl (partD d)) H1
section
variable {P : Program} {w : World} {K : PySem.W.Frag} {mg : Str → Option Value} {base : Heap}
theorem ok_whole {k : Nat} (D : Pr P K mg) : FnOk P w K mg base CX0 (k + 1) D.is_whole.f D.is_whole.fd ["value", "least", "most"] spWhole := by
  refine D.is_whole.F.ok sc_is_whole (fun vs H Q E h => ?_) (fun cdv A outer s H vs Q E hr h => ?_)
  · obtain ⟨x, l, m, rfl, _⟩ := h
    rfl
  · obtain ⟨x, l, m, rfl, hx, q⟩ := h
    refine ⟨_, (pss_cons (ps_if (PW.pt (pw_or (pt_not (pt_val (pe_callB call_isi (by rfl) D.B.isinstance (by decide +kernel) (pa_cons (pv 0) (pa_cons (pe_bltn (v := .ty "int") (u := .type "int") (by rfl) D.B.int (by decide +kernel) rfl) pa_nil))))) (pw_or1 (pt_val (pe_callB call_isi (by rfl) D.B.isinstance (by decide +kernel) (pa_cons (pv 0) (pa_cons (pe_bltn (v := .ty "bool") (u := .type "bool") (by rfl) D.B.bool (by decide +kernel) rfl) pa_nil))))))) (pss_one (ps_ret pe_bl)) pss_nil)
      (pss_one (ps_ret (pe_and (pe_cmpR op_le (pv 1) (pv 0) (nomark _)) (pe_one (pe_or (pe_cmpR op_isN (pv 2) pe_non (nomark _)) (pe_one (pe_cmpR op_le (pv 0) (pv 2) (nomark _))))))))), ?_⟩
    rcases hx with ⟨i, rfl⟩ | ⟨b, rfl⟩
    · refine ⟨_, rfl, _, _, .type "int", _, true, rfl, .ty "int", .base (.int i), kit_ty (by decide +kernel), true, rfl, iteF ?_⟩
      refine ⟨_, rfl, _, _, .type "int", _, false, rfl, .ty "bool", .base (.int i), kit_ty (by decide +kernel), false, rfl, iteF ?_⟩
      refine ⟨_, rfl, _, rfl, _, _, rfl, rfl, _, rfl, ?_⟩
      have q : Q (.bl (decide (l ≤ i) && decide (i ≤ m))) H := q
      by_cases h1 : l ≤ i
      · rw [decide_eq_true h1] at q ⊢
        refine iteT ⟨_, rfl, rfl, false, rfl, iteF ⟨_, rfl, _, rfl, _, _, rfl, rfl, ?_⟩⟩
        rw [Bool.true_and] at q
        exact q
      · rw [decide_eq_false h1] at q ⊢
        exact iteF q
    · refine ⟨_, rfl, _, _, .type "bool", _, true, rfl, .ty "int", .base (.bl b), kit_ty (by decide +kernel), true, rfl, iteF ?_⟩
      refine ⟨_, rfl, _, _, .type "bool", _, true, rfl, .ty "bool", .base (.bl b), kit_ty (by decide +kernel), true, rfl, iteT q⟩
theorem ok_bit {k : Nat} (D : Pr P K mg) : FnOk P w K mg base CX0 (k + 2) D.is_bit.f D.is_bit.fd ["value"] spBit := by
  have G_is_whole : FnOk P w K mg base CX0 (k + 1) D.is_whole.f D.is_whole.fd ["value", "least", "most"] spWhole := ok_whole D
  refine D.is_bit.F.ok sc_is_bit (fun vs H Q E h => ?_) (fun cdv A outer s H vs Q E hr h => ?_)
  · obtain ⟨x, rfl, _⟩ := h
    rfl
  · obtain ⟨x, rfl, q⟩ := h
    refine ⟨_, (pss_one (ps_ret (pe_call G_is_whole (hr.mono (by omega)) (by rfl) D.is_whole.g D.is_whole.F.kp D.is_whole.b .nil pass0 (pa_cons (pv 0) (pa_cons pe_int (pa_cons pe_int pa_nil)))))), ?_⟩
    rcases q with ⟨i, rfl, q⟩ | ⟨b, rfl, q⟩
    · refine ⟨.int i, rfl, .int i, 0, 1, rfl, .inl ⟨i, rfl⟩, ?_⟩
      rw [show wholeV 0 1 (.int i) = decide (0 ≤ i ∧ i ≤ 1) from Bool.decide_and ..|>.symm]
      exact q
    · exact ⟨.bl b, rfl, .bl b, 0, 1, rfl, .inr ⟨b, rfl⟩, q⟩
theorem head_sz {z : Str} (h : 1 ≤ z.cps.size) : ∃ c, z.cps.toList.head? = some c := by
  cases e : z.cps.toList with
  | nil => have : z.cps.toList.length = 0 := by rw [e]; rfl
           rw [Array.length_toList] at this; omega
  | cons c r => exact ⟨c, rfl⟩
theorem last_sz {z : Str} (h : 1 ≤ z.cps.size) : ∃ c, z.cps.toList.getLast? = some c := by
  cases e : z.cps.toList.getLast? with
  | none => have : z.cps.toList = [] := List.getLast?_eq_none_iff.mp e
            have : z.cps.toList.length = 0 := by rw [this]; rfl
            rw [Array.length_toList] at this; omega
  | some c => exact ⟨c, rfl⟩
theorem ok_name {k : Nat} (D : Pr P K mg) : FnOk P w K mg base CX0 (k + 1) D.is_name.f D.is_name.fd ["value"] spName := by
  obtain ⟨tL, m_LETTERS⟩ := D.k_LETTERS
  obtain ⟨tS, m_SIGNS⟩ := D.k_SIGNS
  obtain ⟨a_WORDS, m_WORDS, hW⟩ := D.k_WORDS
  refine D.is_name.F.ok sc_is_name (fun vs H Q E h => ?_) (fun cdv A outer s H vs Q E hr h => ?_)
  · obtain ⟨v, d, rfl, _⟩ := h
    rfl
  · obtain ⟨v, d, rfl, hd, hz, q⟩ := h
    refine ⟨_, (pss_cons (ps_if (PW.pt (pw_or (pt_not (pt_val (pe_callB call_isi (by rfl) D.B.isinstance (by decide +kernel) (pa_cons (pv 0) (pa_cons (pe_bltn (v := .ty "str") (u := .type "str") (by rfl) D.B.str (by decide +kernel) rfl) pa_nil))))) (pw_or (pt_not (pt_chain op_le op_le pe_int (pe_callB call_len (by rfl) D.B.len PySem.boot_len (pa_cons (pv 0) pa_nil)) pe_int)) (pw_or1 (pt_cmpR op_in_seq (pv 0) (pe_glob (v := .ref a_WORDS) (by rfl) m_WORDS rfl) (by rfl)))))) (pss_one (ps_ret pe_bl)) pss_nil)
      (pss_cons (ps_if (PW.pt (pw_or (pt_cmpR op_notIn_sign (pe_ix (r := rIxS) ix_str (pv 0) pe_int (fun _ _ => rfl)) (pe_glob (v := .str "abcdefghijklmnopqrstuvwxyz") (by rfl) m_LETTERS ⟨_, rfl⟩) (by rfl)) (pw_or1 (pt_cmpR op_eq (pe_ix (r := rIxS) ix_str (pv 0) (pe_un un_neg pe_int) (fun _ _ => rfl)) pe_str (nomark _))))) (pss_one (ps_ret pe_bl)) pss_nil)
      (pss_one (ps_ret (pe_callB (cr_all rfl) (by rfl) D.B.all (by decide +kernel) (pa_cons (pe_lc (own := [("sign", 1)]) (g := (gName 1)) (tt := tYes) rfl sc_is_name.nd (pi_str (pv 0)) (blkOk_by (own := [("sign", 1)]) (N := n_is_name) (sc := defScope s_is_name) (by decide +kernel)) (fun _ _ _ _ _ => (pg_name (i := 1) sc_is_name.nd rfl (.inl rfl))) (fun _ _ _ _ _ => pts_nil) (fun _ _ _ _ _ => (pe_cmpR op_in_sign (pv 1) (pe_glob (v := .str "abcdefghijklmnopqrstuvwxyz0123456789.") (by rfl) m_SIGNS ⟨_, rfl⟩) (by rfl)))) pa_nil)))))), ?_⟩
    refine ⟨_, rfl, _, _, .type (tyN d), _, isStrD d, rfl, .ty "str", hd.ty, kit_str hd, isStrD d, rfl, ?_⟩
    cases hd with
    | non => exact iteT (q _ (Same.refl _))
    | bl b => exact iteT (q _ (Same.refl _))
    | int i => exact iteT (q _ (Same.refl _))
    | lst _ _ => exact iteT (q _ (Same.refl _))
    | tup _ _ => exact iteT (q _ (Same.refl _))
    | str z =>
    refine iteF ?_
    have hs : z.cps.size ≤ 1000000 := hz z rfl
    have hsz : z.length ≤ sizeLine := Nat.le_trans hs (by decide)
    have q : ∀ H1, Same H H1 → Q (.bl (nameB z)) H1 := q
    refine ⟨.str z, rfl, .str z, z.cps.size, rfl, ⟨hsz, rfl⟩, 1, (z.cps.size : Int), rfl, rfl, ?_⟩
    refine ⟨_, rfl, ?_⟩
    unfold nameB at q
    by_cases h1 : 1 ≤ z.cps.size
    case neg =>
      rw [decide_eq_false (show ¬ (1 : Int) ≤ (z.cps.size : Int) by omega)]
      rw [decide_eq_false h1] at q
      exact iteF ⟨false, rfl, iteT (q _ (Same.refl _))⟩
    rw [decide_eq_true (show (1 : Int) ≤ (z.cps.size : Int) by omega)]
    refine iteT ⟨_, _, rfl, rfl, _, rfl, ?_⟩
    by_cases h2 : z.cps.size ≤ 40
    case neg =>
      rw [decide_eq_false (show ¬ (z.cps.size : Int) ≤ 40 by omega)]
      rw [decide_eq_true h1, decide_eq_false h2] at q
      exact iteT (q _ (Same.refl _))
    rw [decide_eq_true (show (z.cps.size : Int) ≤ 40 by omega)]
    refine iteF ?_
    rw [decide_eq_true h1, decide_eq_true h2] at q
    refine ⟨.str z, rfl, a_WORDS, wordsS.map V.str, rfl, .inr (hW H), rfl, rfl, _, rfl, ?_⟩
    show if (if false = true then _ else inV (.str z) (wordsS.map V.str)) = true then _ else _
    rw [if_neg Bool.false_ne_true, inStr]
    cases h3 : wordsS.any (fun y => decide (z = y)) with
    | true =>
      rw [h3] at q
      exact iteT (q _ (Same.refl _))
    | false =>
    refine iteF ?_
    rw [h3] at q
    obtain ⟨c0, h0⟩ := head_sz h1
    obtain ⟨c1, hl⟩ := last_sz h1
    rw [h0, hl] at q
    refine ⟨.str z, rfl, z, 0, c0, rfl, rfl, hsz, atI_head h0, c0, letters, rfl, rfl, _, rfl, ?_⟩
    have q : ∀ H1, Same H H1 → Q (.bl (decide (c0 ∈ letters.cps.toList) && decide (c1 ≠ 46) && z.cps.toList.all fun c => decide (c ∈ signs.cps.toList))) H1 := q
    by_cases h4 : c0 ∈ letters.cps.toList
    case neg =>
      rw [decide_eq_false h4] at q ⊢
      exact iteT (q _ (Same.refl _))
    rw [decide_eq_true h4] at q ⊢
    refine iteF ?_
    refine ⟨.str z, rfl, 1, rfl, z, -1, c1, rfl, rfl, hsz, atI_last' hl, rfl, _, rfl, ?_⟩
    by_cases h5 : c1 = 46
    case pos =>
      subst h5
      rw [decide_eq_true (show (V.str ⟨#[46]⟩ : V) = .str "." by decide +kernel)]
      rw [decide_eq_false (by decide)] at q
      exact iteT (q _ (Same.refl _))
    rw [decide_eq_false (str1_ne h5)]
    rw [decide_eq_true h5] at q
    refine iteF ?_
    delta tNext tRet tCB tCons
    dsimp only
    refine tMapStr_ok (j := 0) (c := 1) ?_
    refine ⟨z, fun c => .bl (decide (c ∈ signs.cps.toList)), rfl, Nat.le_trans h2 (by decide), fun i cc H2 Qk hcc s2 hk => ⟨_, rfl, cc, signs, rfl, rfl, hk H2 (Same.refl _)⟩, fun Dl H2 nD s2 eD => ?_⟩
    have eB : z.cps.toList.map (fun c => V.bl (decide (c ∈ signs.cps.toList))) = (z.cps.toList.map fun c => decide (c ∈ signs.cps.toList)).map V.bl := by
      rw [List.map_map]
      rfl
    rw [eB] at eD
    refine ⟨Dl, _, rfl, sqL eD, ?_⟩
    rw [List.all_map]
    exact q H2 s2
end
end K7

set_option Elab.async false
set_option linter.all false
set_option maxRecDepth 100000
set_option maxHeartbeats 4000000
namespace K7
open PySem PySem.Spec PyProof.Rows L2 GX NdefX
section
variable {P : Program} {w : World} {K : PySem.W.Frag} {mg : Str → Option Value} {base : Heap}
theorem part_len {ds : List PyData} (h : ds.length ≠ 2) : partD (.tuple ds) = false := by
  match ds, h with
  | [], _ => rfl
  | [_], _ => simp [partD]
  | [_, _], h => exact absurd rfl h
  | _ :: _ :: _ :: _, _ => simp [partD]
theorem ok_part {k : Nat} (D : Pr P K mg) : FnOk P w K mg base CX0 (k + 3) D._is_part.f D._is_part.fd ["part", "names"] spPart := by
  have G_is_bit : FnOk P w K mg base CX0 (k + 2) D.is_bit.f D.is_bit.fd ["value"] spBit := ok_bit D
  have G_is_name : FnOk P w K mg base CX0 (k + 1) D.is_name.f D.is_name.fd ["value"] spName := ok_name D
  obtain ⟨a_EDGES, m_EDGES, hE⟩ := D.k_EDGES
  obtain ⟨a_JOINTS, m_JOINTS, hJ⟩ := D.k_JOINTS
  refine D._is_part.F.ok sc__is_part (fun vs H Q E h => ?_) (fun cdv A outer s H vs Q E hr h => ?_)
  · obtain ⟨v, d, rfl, _⟩ := h
    rfl
  · obtain ⟨v, d, rfl, hd, dom, hz, q⟩ := h
    refine ⟨_, (pss_cons (ps_if (PW.pt (pw_or (pt_not (pt_val (pe_callB call_isi (by rfl) D.B.isinstance (by decide +kernel) (pa_cons (pv 0) (pa_cons (pe_bltn (v := .ty "tuple") (u := .type "tuple") (by rfl) D.B.tuple (by decide +kernel) rfl) pa_nil))))) (pw_or1 (pt_cmpR op_ne (pe_callB call_len (by rfl) D.B.len PySem.boot_len (pa_cons (pv 0) pa_nil)) pe_int (nomark _))))) (pss_one (ps_ret pe_bl)) pss_nil)
      (pss_cons (ps_asg (pv 0) (pg_tup rfl (pgs_cons (pg_name (i := 2) sc__is_part.nd rfl (.inl rfl)) (pgs_cons (pg_name (i := 3) sc__is_part.nd rfl (.inl rfl)) pgs_nil))))
      (pss_cons (ps_if (pt_cmpR op_eq (pv 2) pe_str (nomark _)) (pss_one (ps_ret pe_bl)) pss_nil)
      (pss_cons (ps_if (pt_cmpR op_in_seq (pv 2) (pe_glob (v := .ref a_JOINTS) (by rfl) m_JOINTS rfl) (by rfl)) (pss_one (ps_ret (pe_and (pe_callB call_isi (by rfl) D.B.isinstance (by decide +kernel) (pa_cons (pv 3) (pa_cons (pe_bltn (v := .ty "tuple") (u := .type "tuple") (by rfl) D.B.tuple (by decide +kernel) rfl) pa_nil))) (pe_one (pe_cmpR op_gt (pe_callB call_len (by rfl) D.B.len PySem.boot_len (pa_cons (pv 3) pa_nil)) pe_int (nomark _)))))) pss_nil)
      (pss_cons (ps_if (pt_cmpR op_eq (pv 2) pe_str (nomark _)) (pss_one (ps_ret (pe_call G_is_bit (hr.mono (by omega)) (by rfl) D.is_bit.g D.is_bit.F.kp D.is_bit.b .nil pass0 (pa_cons (pv 3) pa_nil)))) pss_nil)
      (pss_cons (ps_if (PW.pt (pw_or (pt_cmpR op_eq (pv 2) pe_str (nomark _)) (pw_or1 (pt_cmpR op_in_seq (pv 2) (pe_glob (v := .ref a_EDGES) (by rfl) m_EDGES rfl) (by rfl))))) (pss_one (ps_ret (pe_ifExp (pt_cmpR op_isN (pv 1) pe_non (nomark _)) (pe_call G_is_name (hr.mono (by omega)) (by rfl) D.is_name.g D.is_name.F.kp D.is_name.b .nil pass0 (pa_cons (pv 3) pa_nil)) (pe_and (pe_callB call_isi (by rfl) D.B.isinstance (by decide +kernel) (pa_cons (pv 3) (pa_cons (pe_bltn (v := .ty "str") (u := .type "str") (by rfl) D.B.str (by decide +kernel) rfl) pa_nil))) (pe_one (pe_cmpR op_in_seq (pv 3) (pv 1) (by rfl))))))) pss_nil)
      (pss_one (ps_ret pe_bl)))))))), ?_⟩
    refine ⟨_, rfl, _, _, .type (tyN d), _, isTupD d, rfl, .ty "tuple", hd.ty, kit_tup hd, isTupD d, rfl, ?_⟩
    cases hd with
    | non => exact iteT (q _ (Same.refl _))
    | bl b => exact iteT (q _ (Same.refl _))
    | int i => exact iteT (q _ (Same.refl _))
    | str z => exact iteT (q _ (Same.refl _))
    | lst _ _ => exact iteT (q _ (Same.refl _))
    | @tup a xs ds ha hxs =>
    refine iteF ?_
    have hlen : xs.length = ds.length := hxs.length
    refine ⟨.ref a, rfl, .ref a, xs.length, rfl, lenV_sq (.inr ha) rfl, rfl, _, rfl, ?_⟩
    by_cases h2 : ds.length = 2
    case neg =>
      rw [decide_eq_false (show ¬ ((V.int (xs.length : Nat)) = V.int 2) from fun e => h2 (by have := V.int.inj e; omega))]
      refine iteT ?_
      have q1 := q _ (Same.refl _)
      rw [part_len h2] at q1
      exact q1
    rw [decide_eq_true (show ((V.int (xs.length : Nat)) = V.int 2) by rw [hlen, h2]; rfl)]
    refine iteF ?_
    match ds, h2, hxs, dom, q, hz with
    | [d1, d2], _, hxs, dom, q, hz =>
    match xs, hxs with
    | [x1, x2], .cons p1 (.cons p2 .nil) =>
    match d1, p1, dom, q, hz with
    | .str kk, .str _, dom, q, hz =>
    have q : ∀ H1, Same H H1 → Q (.bl (partK kk d2)) H1 := q
    refine ⟨.ref a, rfl, a, [.str kk, x2], rfl, sqT ha, rfl, .str kk, [x2], rfl, x2, [], rfl, rfl, ?_⟩
    refine ⟨.str kk, rfl, rfl, _, rfl, ?_⟩
    rw [strEq]
    unfold partK at q
    by_cases e1 : kk = "not"
    · rw [decide_eq_true e1]
      rw [if_pos e1] at q
      exact iteT (q _ (Same.refl _))
    rw [decide_eq_false e1]
    rw [if_neg e1] at q
    refine iteF ?_
    refine ⟨.str kk, rfl, a_JOINTS, (["and", "or"] : List Str).map V.str, rfl, .inr (hJ H), rfl, rfl, _, rfl, ?_⟩
    show if (if false = true then _ else inV (.str kk) ((["and", "or"] : List Str).map V.str)) = true then _ else _
    rw [if_neg Bool.false_ne_true, inStr]
    by_cases e2 : kk = "and" ∨ kk = "or"
    · rw [show (["and", "or"] : List Str).any (fun y => decide (kk = y)) = true by rcases e2 with e | e <;> simp [e]]
      rw [if_pos e2] at q
      refine iteT ⟨x2, rfl, _, _, .type (tyN d2), _, isTupD d2, rfl, .ty "tuple", p2.ty, kit_tup p2, isTupD d2, rfl, ?_⟩
      cases p2 with
      | non => exact iteF (q _ (Same.refl _))
      | bl b => exact iteF (q _ (Same.refl _))
      | int i => exact iteF (q _ (Same.refl _))
      | str z => exact iteF (q _ (Same.refl _))
      | lst _ _ => exact iteF (q _ (Same.refl _))
      | @tup b ys es hb hys =>
        refine iteT ⟨.ref b, rfl, .ref b, ys.length, rfl, lenV_sq (.inr hb) rfl, (ys.length : Int), 1, rfl, rfl, ?_⟩
        have q1 := q _ (Same.refl _)
        simp only [manyD] at q1
        show Q (.bl (decide ((1 : Int) < (ys.length : Int)))) H
        rw [show decide ((1 : Int) < (ys.length : Int)) = decide (1 < es.length) from decide_eq_decide.mpr (by have := hys.length; omega)]
        exact q1
    rw [show (["and", "or"] : List Str).any (fun y => decide (kk = y)) = false by
      simp only [List.any_cons, List.any_nil, Bool.or_false, Bool.or_eq_false_iff, decide_eq_false_iff_not]
      exact ⟨fun e => e2 (.inl e), fun e => e2 (.inr e)⟩]
    rw [if_neg e2] at q
    refine iteF ?_
    refine ⟨.str kk, rfl, rfl, _, rfl, ?_⟩
    rw [strEq]
    by_cases e3 : kk = "bit"
    · rw [decide_eq_true e3]
      rw [if_pos e3] at q
      refine iteT ⟨x2, rfl, x2, rfl, ?_⟩
      subst e3
      cases p2 with
      | int i => exact .inl ⟨i, rfl, q _ (Same.refl _)⟩
      | bl b => exact .inr ⟨b, rfl, q _ (Same.refl _)⟩
      | non => simp [domD] at dom
      | str z => simp [domD] at dom
      | lst _ _ => simp [domD] at dom
      | tup _ _ => simp [domD] at dom
    rw [decide_eq_false e3]
    rw [if_neg e3] at q
    refine iteF ?_
    refine ⟨.str kk, rfl, rfl, _, rfl, ?_⟩
    rw [strEq]
    have nm : (∀ H1, Same H H1 → Q (.bl (nameD d2)) H1) → spName [x2] H Q (fun _ _ _ => False) := fun q => ⟨x2, d2, rfl, p2, fun z e => hz _ z (by rw [e]), q⟩
    by_cases e4 : kk = "name"
    · rw [decide_eq_true e4]
      rw [if_pos (.inl e4)] at q
      exact iteT (iteT ⟨.non, rfl, rfl, true, rfl, iteT ⟨x2, rfl, nm q⟩⟩)
    rw [decide_eq_false e4]
    refine iteF ?_
    refine ⟨.str kk, rfl, a_EDGES, (["rise", "fall"] : List Str).map V.str, rfl, .inr (hE H), rfl, rfl, _, rfl, ?_⟩
    show if (if false = true then _ else inV (.str kk) ((["rise", "fall"] : List Str).map V.str)) = true then _ else _
    rw [if_neg Bool.false_ne_true, inStr]
    by_cases e5 : kk = "rise" ∨ kk = "fall"
    · rw [show (["rise", "fall"] : List Str).any (fun y => decide (kk = y)) = true by rcases e5 with e | e <;> simp [e]]
      rw [if_pos (.inr e5)] at q
      exact iteT ⟨.non, rfl, rfl, true, rfl, iteT ⟨x2, rfl, nm q⟩⟩
    rw [show (["rise", "fall"] : List Str).any (fun y => decide (kk = y)) = false by
      simp only [List.any_cons, List.any_nil, Bool.or_false, Bool.or_eq_false_iff, decide_eq_false_iff_not]
      exact ⟨fun e => e5 (.inl e), fun e => e5 (.inr e)⟩]
    rw [if_neg (fun z => z.elim e4 e5)] at q
    exact iteF (q _ (Same.refl _))
    | .none, .non, dom, _, _ => simp [domD] at dom
    | .bool _, .bl _, dom, _, _ => simp [domD] at dom
    | .int _, .int _, dom, _, _ => simp [domD] at dom
    | .list _, .lst _ _, dom, _, _ => simp [domD] at dom
    | .tuple _, .tup _ _, dom, _, _ => simp [domD] at dom
end
end K7

set_option Elab.async false
set_option linter.all false
set_option maxRecDepth 100000
set_option maxHeartbeats 4000000
namespace K7
open PySem PySem.Spec PyProof.Rows L2 GX NdefX
def spForm : Sp := fun vs H Q _ => ∃ (v : V) (d : PyData), vs = [v, .non, .int 40] ∧ Dh H v d ∧ domL 40 [d] = true ∧ wtD d ≤ 100000 ∧ strD d = true ∧ ∀ H1, Same H H1 → Q (.bl (formL 40 [d])) H1
section
variable {P : Program} {w : World} {K : PySem.W.Frag} {mg : Str → Option Value} {base : Heap}
theorem FunD.ok0 {x qual : Str} {st : Stmt} {dvs : List V} {f : Addr} {fd : FuncData} {N ps : List Str} {k : Nat} {sp : Sp} (F : FunD K x qual (defArgs st) (defBody st) (defScope st) dvs [] f fd) (S : FnScope N ps (defScope st)) (len : ∀ vs H Q E, sp vs H Q E → vs.length = ps.length)
    (hb : ∀ (cdv : Value) (A : Around) (outer : List Env) (s : Shared) (H : Hp) (vs : List V) (Q : VK) (E : XK), Room k (A.deeper (envOfC qual (defScope st) s.heap.objs.size f cdv)) → sp vs H Q E →
      ∃ t, PSs (cxOf CX0 P w K mg base N qual (defScope st) f cdv A outer s H E).nox (defBody st) t ∧ t { nx := fun _ H' => Q .non H', rt := Q } (start N vs) H) : FnOk P w K mg base CX0 (k + 1) f fd ps sp :=
  F.ok (CX := CX0) S len fun cdv A outer s H vs Q E hr h => let ⟨t, h1, q⟩ := hb cdv A outer s H vs Q E hr h; ⟨t, h1.nox, q⟩
theorem DhAll.get {H : Hp} (ds : List PyData) : ∀ {vs : List V} {i : Nat} {v : V}, DhAll H vs ds → vs[i]? = some v → ∃ d, ds[i]? = some d ∧ Dh H v d := by
  induction ds with
  | nil => intro vs i v h e; cases h; simp at e
  | cons d ds ih =>
    intro vs i v h e
    cases h with
    | cons h t =>
      cases i with
      | zero => simp at e; subst e; exact ⟨d, rfl, h⟩
      | succ i => exact ih t (by simpa using e)
theorem take_succ_of {α : Type} {l : List α} {i : Nat} {x : α} (h : l[i]? = some x) : l.take (i + 1) = l.take i ++ [x] := by
  rw [List.take_add_one, h]; rfl
theorem ok_form {k : Nat} (D : Pr P K mg) : FnOk P w K mg base CX0 (k + 4) D.is_formula.f D.is_formula.fd ["value", "names", "depth"] spForm := by
  have G__is_part : FnOk P w K mg base CX0 (k + 3) D._is_part.f D._is_part.fd ["part", "names"] spPart := ok_part D
  obtain ⟨a_JOINTS, m_JOINTS, hJ⟩ := D.k_JOINTS
  refine FunD.ok0 D.is_formula.F sc_is_formula (fun vs H Q E h => ?_) (fun cdv A outer s H vs Q E hr h => ?_)
  · obtain ⟨v, d, rfl, _⟩ := h
    rfl
  · obtain ⟨v, d, rfl, hd, dom, wt, st, q⟩ := h
    refine ⟨_, (pss_cons (ps_set (i := 3) sc_is_formula.nd rfl (.inl rfl) (pe_lst (pa_cons (pv 0) pa_nil)))
      (pss_cons (ps_for PassesOwn.never rfl (pi_range1 (by rfl) D.B.range (pa_cons (pv 2) pa_nil)) (pg_name (i := 4) sc_is_formula.nd rfl (.inl rfl)) (pss_cons (ps_set (i := 5) sc_is_formula.nd rfl (.inl rfl) (pe_lst pa_nil)) (pss_cons (ps_for PassesOwn.never rfl (pi_list (pe_callTy call_list_of (by rfl) D.B.list (by decide +kernel) (pa_cons (pv 3) pa_nil))) (pg_name (i := 6) sc_is_formula.nd rfl (.inl rfl)) (pss_cons (ps_if (pt_not (pt_val (pe_call G__is_part (hr.mono (by omega)) (by rfl) D._is_part.g D._is_part.F.kp D._is_part.b .nil pass0 (pa_cons (pv 6) (pa_cons (pv 1) pa_nil))))) (pss_one (ps_ret pe_bl)) pss_nil) (pss_one (ps_if (pt_cmpR op_eq (pe_ix (r := rIxT K) ix_tup (pv 6) pe_int (fun _ _ => rfl)) pe_str (nomark _)) (pss_one (ps_expr (pe_bm PySem.F.plainAttrs_list PySem.F.slot_list_append PySem.F.type_list_append mt_append (pv 5) (pa_cons (pe_ix (r := rIxT K) ix_tup (pv 6) pe_int (fun _ _ => rfl)) pa_nil)))) (pss_one (ps_if (pt_cmpR op_in_seq (pe_ix (r := rIxT K) ix_tup (pv 6) pe_int (fun _ _ => rfl)) (pe_glob (v := .ref a_JOINTS) (by rfl) m_JOINTS rfl) (by rfl)) (pss_one (ps_expr (pe_bm PySem.F.plainAttrs_list PySem.F.slot_list_extend PySem.F.type_list_extend RG.mt_extT (pv 5) (pa_cons (pe_ix (r := rIxT K) ix_tup (pv 6) pe_int (fun _ _ => rfl)) pa_nil)))) pss_nil)))))) (pss_cons (ps_if (pt_not (pt_truth (pv 5) (fun _ => rfl))) (pss_one (ps_ret pe_bl)) pss_nil) (pss_one (ps_set (i := 3) sc_is_formula.nd rfl (.inl rfl) (pv 5)))))))
      (pss_one (ps_ret pe_bl)))), ?_⟩
    refine ⟨v, rfl, by show 1 ≤ sizeLine; decide, fun L nL => ?_⟩
    have sL := same_upd nL (o := .lst [v])
    have eL : upd H L (.lst [v]) L = some (.lst [v]) := upd_same
    generalize upd H L (.lst [v]) = H1 at sL eL
    refine ⟨.int 40, rfl, 40, rfl, by decide, by decide, forRg (n := 40) (D := { nx := _, rt := Q }) (fun i σ H' => ∃ L xs l c4 c5 c6, σ = [some v, some .non, some (.int 40), some (.ref L), c4, c5, c6] ∧ Same H H' ∧ H' L = some (.lst xs) ∧ DhAll H' xs l ∧ domL (40 - i) l = true ∧ wtL l ≤ 100000 ∧ strL l = true ∧ formL 40 [d] = formL (40 - i) l)
      ⟨L, [v], [d], none, none, none, rfl, sL, eL, .cons (hd.same sL) .nil, dom, by simp only [wtL]; omega, by simp only [strL, st]; rfl, rfl⟩ ?_ ?_⟩
    · rintro i σ H2 hi ⟨L, xs, l, c4, c5, c6, rfl, s2, eL, dl, dom, wt, st, eq⟩
      obtain ⟨n, hn⟩ : ∃ n, 40 - i = n + 1 := ⟨39 - i, by omega⟩
      have hn2 : 40 - (i + 1) = n := by omega
      rw [hn] at dom eq
      have alld : l.all domD = true := by unfold domL at dom; exact (Bool.and_eq_true_iff.mp dom).1
      have lenx : xs.length = l.length := dl.length
      have few : l.length ≤ 100000 := Nat.le_trans (wtL_len l) wt
      refine ⟨by show 0 ≤ sizeLine; decide, fun b nb => ?_⟩
      have sb := same_upd nb (o := .lst [])
      have eb : upd H2 b (.lst []) b = some (.lst []) := upd_same
      generalize upd H2 b (.lst []) = H3 at sb eb
      refine ⟨.ref L, rfl, L, xs, rfl, .inl (sqL (sb _ _ eL)), fun p np => ?_⟩
      have s4 := same_upd np (o := .lst xs)
      have ep : upd H3 p (.lst xs) p = some (.lst xs) := upd_same
      generalize upd H3 p (.lst xs) = H4 at s4 ep
      have s24 := sb.trans s4
      have npb : p ≠ b := fun e => by rw [e, eb] at np; cases np
      have n2p : H2 p = none := none_of_same sb np
      refine ⟨p, rfl, ⟨_, sqL ep⟩, forLs (D := { nx := _, rt := Q }) (xs := xs) (fun j σ H' => ∃ c6 ys, σ = [some v, some .non, some (.int 40), some (.ref L), some (.int (i : Nat)), some (.ref b), c6] ∧ Same H2 H' ∧ H' b = some (.lst ys) ∧ H' p = some (.lst xs) ∧
        DhAll H2 ys ((l.take j).flatMap belowD) ∧ (l.take j).all partD = true) ep ⟨c6, [], rfl, s24, s4 _ _ eb, ep, .nil, rfl⟩ (fun j σ H' z => by obtain ⟨_, _, _, _, _, e, _⟩ := z; exact e) ?_ ?_⟩
      · rintro j x σ H5 hx ⟨c6, ys, rfl, s5, eb5, ep5, dy, allp⟩
        obtain ⟨d', hd', hx'⟩ := DhAll.get l dl hx
        have md : d' ∈ l := List.mem_of_getElem? hd'
        have sd : strD d' = true := strL_all.mp st d' md
        refine ⟨x, rfl, .non, rfl, x, d', rfl, hx'.same s5, List.all_eq_true.mp alld d' md, fun kk z e => ?_, fun H6 s6 => ?_⟩
        · rw [e] at sd
          simp only [strD, strL, Bool.and_eq_true, decide_eq_true_eq] at sd
          exact sd.2.1
        have s26 := s5.trans s6
        refine ⟨partD d', rfl, ?_⟩
        cases ep' : partD d' with
        | false =>
          have q1 := q H6 (s2.trans s26)
          rw [eq, formL, show l.all partD = false from by
            rw [List.all_eq_false]
            exact ⟨d', md, by rw [ep']; exact Bool.false_ne_true⟩] at q1
          exact iteT q1
        | true =>
          refine iteF ?_
          obtain ⟨kk, x2d, rfl, hk⟩ := part_inv ep'
          match x, hx' with
          | .ref a, .tup (xs := xx) ea hxx =>
          match xx, hxx with
          | [.str _, x2], .cons (.str _) (.cons h2 .nil) =>
          have ea6 := s26 _ _ ea
          have eb6 := s6 _ _ eb5
          have bl : belowD (.tuple [.str kk, x2d]) = if kk = "not" then [x2d] else if kk = "and" ∨ kk = "or" then itemsD x2d else [] := rfl
          have tk : (l.take (j + 1)).flatMap belowD = (l.take j).flatMap belowD ++ belowD (.tuple [.str kk, x2d]) := by
            rw [take_succ_of hd', List.flatMap_append]; simp
          have tp : (l.take (j + 1)).all partD = true := by
            rw [take_succ_of hd', List.all_append, allp, Bool.true_and, List.all_cons, ep']; rfl
          have yl : ys.length ≤ 100000 := by
            rw [dy.length]
            refine Nat.le_trans (wtL_len _) (Nat.le_trans (wt_belowL _) ?_)
            have : wtL (l.take j ++ l.drop j) = wtL l := by rw [List.take_append_drop]
            rw [wtL_app] at this
            omega
          have nba : b ≠ a := fun e => by rw [← e, nb] at ea; cases ea
          refine ⟨.ref a, rfl, a, _, 0, .str kk, rfl, rfl, sqT ea6, rfl, rfl, _, rfl, ?_⟩
          rw [strEq]
          have fin : ∀ (zs : List V) (c6 : Option V), DhAll H2 zs (belowD (.tuple [.str kk, x2d])) → ∃ c6' ys', [some v, some V.non, some (V.int 40), some (V.ref L), some (V.int (i : Nat)), some (V.ref b), c6] = [some v, some V.non, some (V.int 40), some (V.ref L), some (V.int (i : Nat)), some (V.ref b), c6'] ∧ Same H2 (upd H6 b (.lst (ys ++ zs))) ∧ upd H6 b (.lst (ys ++ zs)) b = some (.lst ys') ∧ upd H6 b (.lst (ys ++ zs)) p = some (.lst xs) ∧
              DhAll H2 ys' ((l.take (j + 1)).flatMap belowD) ∧ (l.take (j + 1)).all partD = true := fun zs c6 hz =>
            ⟨c6, ys ++ zs, rfl, fun c o e => by rw [upd_ne (fun z => by rw [z, nb] at e; cases e)]; exact s26 c o e, upd_same, by rw [upd_ne npb]; exact s6 _ _ ep5, by rw [tk]; exact DhAll.app _ _ _ _ dy hz, tp⟩
          by_cases e1 : kk = "not"
          · rw [decide_eq_true e1]
            refine iteT ⟨.ref b, rfl, .inl ⟨rfl, _, sqL eb6⟩, .ref a, rfl, a, _, 1, x2, rfl, rfl, sqT ea6, rfl, b, ys, x2, rfl, rfl, eb6, by rw [sizeLine_eq]; omega, ?_⟩
            refine fin [x2] _ ?_
            rw [bl, if_pos e1]
            exact .cons h2 .nil
          rw [decide_eq_false e1]
          refine iteF ⟨.ref a, rfl, a, _, 0, .str kk, rfl, rfl, sqT ea6, rfl, a_JOINTS, (["and", "or"] : List Str).map V.str, rfl, .inr (hJ H6), rfl, rfl, _, rfl, ?_⟩
          show if (if false = true then _ else inV (.str kk) ((["and", "or"] : List Str).map V.str)) = true then _ else _
          rw [if_neg Bool.false_ne_true, inStr]
          by_cases e2 : kk = "and" ∨ kk = "or"
          · rw [show (["and", "or"] : List Str).any (fun y => decide (kk = y)) = true by rcases e2 with e | e <;> simp [e]]
            obtain ⟨xs2, rfl⟩ := partK_many hk e2
            match x2, h2 with
            | .ref a2, .tup (xs := zz) ea2 hzz =>
            have zl : zz.length ≤ 100000 := by
              rw [hzz.length]
              have h1 : xs2.length ≤ wtL xs2 := wtL_len _
              have h2 : wtL xs2 ≤ wtL l := by
                obtain ⟨l1, l2, el⟩ := List.append_of_mem md
                rw [el, wtL_app]
                simp only [wtL, wtD]
                omega
              omega
            refine iteT ⟨.ref b, rfl, .inl ⟨rfl, _, sqL eb6⟩, .ref a, rfl, a, _, 1, .ref a2, rfl, rfl, sqT ea6, rfl, b, a2, ys, zz, rfl, rfl, eb6, sqT (s26 _ _ ea2), by rw [sizeLine_eq]; omega, ?_⟩
            refine fin zz _ ?_
            rw [bl, if_neg e1, if_pos e2]
            exact hzz
          rw [show (["and", "or"] : List Str).any (fun y => decide (kk = y)) = false by
            simp only [List.any_cons, List.any_nil, Bool.or_false, Bool.or_eq_false_iff, decide_eq_false_iff_not]
            exact ⟨fun e => e2 (.inl e), fun e => e2 (.inr e)⟩]
          refine iteF ⟨_, ys, rfl, s26, eb6, s6 _ _ ep5, ?_, tp⟩
          rw [tk, bl, if_neg e1, if_neg e2, List.append_nil]
          exact dy
      · rintro σ H5 ⟨c6, ys, rfl, s5, eb5, ep5, dy, allp⟩
        rw [lenx, List.take_length] at dy allp
        have ev : formL 40 [d] = if l.flatMap belowD = [] then true else formL n (l.flatMap belowD) := by
          rw [eq, formL, allp, Bool.true_and]
        refine ⟨.ref b, rfl, !ys.isEmpty, .inl ⟨ys, sqL eb5, rfl⟩, ?_⟩
        have len := dy.length
        cases ys with
        | nil =>
          have e0 : l.flatMap belowD = [] := List.eq_nil_of_length_eq_zero len.symm
          have q1 := q H5 (s2.trans s5)
          rw [ev, if_pos e0] at q1
          exact iteT q1
        | cons y yr =>
          have e0 : ¬ l.flatMap belowD = [] := fun e => by rw [e] at len; simp at len
          refine iteF ⟨.ref b, rfl, b, y :: yr, l.flatMap belowD, _, _, _, rfl, s2.trans s5, eb5, DhAll.same s5 _ _ dy, ?_, Nat.le_trans (wt_belowL l) wt, ?_, ?_⟩
          · rw [hn2]
            unfold domL at dom
            rw [allp] at dom
            simpa using (Bool.and_eq_true_iff.mp dom).2
          · refine strL_all.mpr fun e me => ?_
            obtain ⟨d1, m1, m2⟩ := List.mem_flatMap.mp me
            exact str_below (strL_all.mp st d1 m1) e m2
          · rw [hn2, ev, if_neg e0]
    · rintro σ H2 ⟨L, xs, l, c4, c5, c6, rfl, s2, eL, dl, dom, wt, st, eq⟩
      have q1 := q H2 s2
      rw [eq] at q1
      exact q1
end
end K7

set_option Elab.async false
set_option linter.all false
set_option maxRecDepth 100000
set_option maxHeartbeats 4000000
namespace K7
open PySem PySem.Spec PyProof.Rows L2 GX NdefX
/-! ### the exceptions' own __init__ -/
def spShape (C : Addr) : Sp := fun vs H Q _ => ∃ a : Addr, vs = [.ref a] ∧ H a = some (exo a C none) ∧ Q .non H
def RaiN (E : XK) (C : Addr) (H : Hp) : Prop := ∀ H', Same H H' → E (.ref C) none H'
theorem RaiN.same {E : XK} {C : Addr} {H H1 : Hp} (h : RaiN E C H) (s : Same H H1) : RaiN E C H1 := fun H' s' => h H' (s.trans s')
def spNameE (C : Addr) : Sp := fun vs H Q _ => ∃ (a : Addr) (x : V), vs = [.ref a, x] ∧ H a = some (exo a C none) ∧
  ∀ dx, H dx = none → dx ≠ a → Q .non (upd (upd H dx (exd dx [("name", x)])) a (exo a C (some dx)))
def spManyE (C : Addr) : Sp := fun vs H Q _ => ∃ (a : Addr) (i : Int), vs = [.ref a, .int i] ∧ H a = some (exo a C none) ∧ i.natAbs.log2 < 1920 ∧ (Str.ofString (toString i)).length ≤ 100 ∧
  ∀ dx, H dx = none → dx ≠ a → Q .non (upd (upd H dx (exd dx [("limit", .int i)])) a (exo a C (some dx)))
section
variable {P : Program} {w : World} {K : PySem.W.Frag} {mg : Str → Option Value} {base : Heap}
theorem ok_badf {k : Nat} (D : Pr P K mg) : FnOk P w K mg base CX0 (k + 1) D.BadFormula.f D.BadFormula.fd ["self"] (spShape D.BadFormula.C) := by
  refine fn_ofI D.BadFormula.T ns_BadFormula_init rfl rfl rfl (fun vs H Q E h => ?_) rfl (fun _ _ _ => ⟨rfl, rfl, ⟨_, rfl⟩, rfl, rfl⟩) (fun cc cda A outer s H vs Q E hr h => ?_)
  · obtain ⟨a, rfl, _⟩ := h
    rfl
  · obtain ⟨a, rfl, ha, q⟩ := h
    exact ⟨a, _, _, _, rfl, ha, pa_cons pe_str pa_nil, pss_nil, ha, by show 1 ≤ 1000; decide, q⟩
theorem ok_badn {k : Nat} (D : Pr P K mg) : FnOk P w K mg base CX0 (k + 1) D.BadName.f D.BadName.fd ["self", "name"] (spNameE D.BadName.C) := by
  refine fn_ofI D.BadName.T ns_BadName_init rfl rfl rfl (fun vs H Q E h => ?_) rfl (fun _ _ _ => ⟨rfl, rfl, ⟨_, rfl⟩, rfl, rfl⟩) (fun cc cda A outer s H vs Q E hr h => ?_)
  · obtain ⟨a, z, rfl, _⟩ := h
    rfl
  · obtain ⟨a, x, rfl, ha, q⟩ := h
    refine ⟨a, _, _, _, rfl, ha, pa_cons pe_str pa_nil, pss_one (ps_ost (pv 0) (pv 1)), ?_⟩
    refine ⟨ha, by show 1 ≤ 1000; decide, ?_⟩
    exact ⟨x, rfl, .ref a, rfl, a, D.BadName.C, rfl, D.BadName.T.O, D.BadName.nf _ (by simp), .inl ⟨ha, q⟩⟩
theorem ok_many {k : Nat} (D : Pr P K mg) : FnOk P w K mg base CX0 (k + 1) D.TooMany.f D.TooMany.fd ["self", "limit"] (spManyE D.TooMany.C) := by
  refine fn_ofI D.TooMany.T ns_TooMany_init rfl rfl rfl (fun vs H Q E h => ?_) rfl (fun _ _ _ => ⟨rfl, rfl, ⟨_, rfl⟩, rfl, rfl⟩) (fun cc cda A outer s H vs Q E hr h => ?_)
  · obtain ⟨a, z, rfl, _⟩ := h
    rfl
  · obtain ⟨a, i, rfl, ha, hi, hz, q⟩ := h
    refine ⟨a, _, _, _, rfl, ha, pa_cons (pe_joined (PJ.cons pe_str (PJ.cons (pe_fmt (pv 1)) PJ.nil))) pa_nil, pss_one (ps_ost (pv 0) (pv 1)), ?_⟩
    have e : (Str.ofString "more than ").length = 10 := by decide
    have e2 : Str.empty.length = 0 := by decide
    have es : sizeLine = 16777216 := sizeLine_eq
    refine ⟨_, rfl, by rw [lenApp]; omega, .int i, rfl, .inr ⟨i, rfl, hi, toString i, rfl, by rw [lenApp, lenApp]; omega, ha, by show 1 ≤ 1000; decide, ?_⟩⟩
    exact ⟨.int i, rfl, .ref a, rfl, a, D.TooMany.C, rfl, D.TooMany.T.O, D.TooMany.nf _ (by simp), .inl ⟨ha, q⟩⟩
theorem mkO_badf {E : XK} {C : Addr} {H H1 : Hp} (h : RaiN E C H) (s : Same H H1) : ∀ a, H1 a = none → spShape C [V.ref a] (upd H1 a (exo a C none)) (fun v H2 => v = .non ∧ H2 a = some (exo a C none) ∧ E (.ref C) none (del H2 a)) (fun _ _ _ => False) := fun a na =>
  ⟨a, rfl, upd_same, rfl, upd_same, h _ (s.trans fun b o e => by rw [del_ne (ne_of_none e na), upd_ne (ne_of_none e na)]; exact e)⟩
end
/-- data that is_formula may be asked about -/
structure Arg (H : Hp) (v : V) (d : PyData) : Prop where
  dh : Dh H v d
  dom : domL 40 [d] = true
  wt : wtD d ≤ 100000
  st : strD d = true
theorem Arg.same {H H1 : Hp} {v : V} {d : PyData} (h : Arg H v d) (s : Same H H1) : Arg H1 v d := ⟨h.dh.same s, h.dom, h.wt, h.st⟩
def spCheck (C : Addr) : Sp := fun vs H Q E => ∃ (v : V) (d : PyData), vs = [v] ∧ Arg H v d ∧ (formL 40 [d] = true → ∀ H1, Same H H1 → Q .non H1) ∧ (formL 40 [d] = false → RaiN E C H)
/-- a dict whose keys are the leaves' -/
def LeafD (H : Hp) (D : Addr) (f : Fm) : Prop := ∃ kvs : List (List L2.Key × V), H D = some (.dT kvs) ∧ kvs.length ≤ f.cnt ∧ ∀ k, k ∈ kvs.map (·.1) ↔ k ∈ f.lvs.map Fm.key
def spLeaves : Sp := fun vs H Q _ => ∃ (v : V) (f : Fm), vs = [v] ∧ Dh H v f.data ∧ f.cnt ≤ 100000 ∧ ∀ D H1, Same H H1 → H D = none → LeafD H1 D f → Q (.ref D) H1
section
variable {P : Program} {w : World} {K : PySem.W.Frag} {mg : Str → Option Value} {base : Heap}
theorem ok_check {k : Nat} (D : Pr P K mg) : FnOk P w K mg base (CX P w) (k + 5) D.check_formula.f D.check_formula.fd ["formula"] (spCheck D.BadFormula.C) := by
  have G_is_formula : FnOk P w K mg base CX0 (k + 4) D.is_formula.f D.is_formula.fd ["value", "names", "depth"] spForm := ok_form D
  have GX_BadFormula : FnOk P w K mg base CX0 (k + 1) D.BadFormula.f D.BadFormula.fd ["self"] (spShape D.BadFormula.C) := ok_badf D
  refine D.check_formula.F.okX sc_check_formula (fun vs H Q E h => ?_) (fun cdv A outer s H vs Q E hr h => ?_)
  · obtain ⟨v, d, rfl, _⟩ := h
    rfl
  · obtain ⟨v, d, rfl, ad, q1, q2⟩ := h
    refine ⟨_, (pss_one (ps_if (pt_not (pt_val (pe_call G_is_formula (hr.mono (by omega)) (by rfl) D.is_formula.g D.is_formula.F.kp D.is_formula.b D.is_formula.v pass0 (pa_cons (pv 0) pa_nil)))) (pss_one (ps_raise rfl (takes_of rfl rfl rfl rfl) (pmk_oex0 D.BadFormula.T.O D.BadFormula.T.iC D.BadFormula.T.tI GX_BadFormula (hr.mono (by omega)) D.BadFormula.b pass0 (by rfl) D.BadFormula.g))) pss_nil)), ?_⟩
    refine ⟨v, rfl, v, d, rfl, ad.dh, ad.dom, ad.wt, ad.st, fun H1 s1 => ⟨formL 40 [d], rfl, ?_⟩⟩
    cases e : formL 40 [d] with
    | true => exact iteF (q1 e _ s1)
    | false => exact iteT (mkO_badf (q2 e) s1)
theorem subs_dh {H : Hp} {v : V} {f : Fm} (h : Dh H v f.data) : ∃ a, v = .ref a ∧ ((∃ b, f = .bit b ∧ H a = some (.tup (f.key.map kV))) ∨ (∃ x, f = .name x ∧ H a = some (.tup (f.key.map kV))) ∨ (∃ r x, f = .edge r x ∧ H a = some (.tup (f.key.map kV))) ∨
    (∃ g x2, f = .not g ∧ H a = some (.tup [.str "not", x2]) ∧ Dh H x2 g.data) ∨ ∃ w fs a2 xs, f = .joint w fs ∧ H a = some (.tup [.str (jK w), .ref a2]) ∧ H a2 = some (.tup xs) ∧ DhAll H xs (fs.map Fm.data)) := by
  cases f with
  | bit b =>
    match v, h with
    | .ref a, .tup (xs := [_, _]) e (.cons (.str _) (.cons (.int _) .nil)) => exact ⟨a, rfl, .inl ⟨b, rfl, e⟩⟩
  | name x =>
    match v, h with
    | .ref a, .tup (xs := [_, _]) e (.cons (.str _) (.cons (.str _) .nil)) => exact ⟨a, rfl, .inr (.inl ⟨x, rfl, e⟩)⟩
  | edge r x =>
    match v, h with
    | .ref a, .tup (xs := [_, _]) e (.cons (.str _) (.cons (.str _) .nil)) => exact ⟨a, rfl, .inr (.inr (.inl ⟨r, x, rfl, e⟩))⟩
  | not g =>
    match v, h with
    | .ref a, .tup (xs := [_, x2]) e (.cons (.str _) (.cons h2 .nil)) => exact ⟨a, rfl, .inr (.inr (.inr (.inl ⟨g, x2, rfl, e, h2⟩)))⟩
  | joint w fs =>
    cases h with
    | tup e hx =>
      cases hx with
      | cons h1 h2 =>
        cases h1
        cases h2 with
        | cons h3 h4 =>
          cases h4
          cases h3 with
          | tup e2 h5 => exact ⟨_, rfl, .inr (.inr (.inr (.inr ⟨w, fs, _, _, rfl, e, e2, by rw [← dataL_map]; exact h5⟩)))⟩
end
end K7

set_option Elab.async false
set_option linter.all false
set_option maxRecDepth 100000
set_option maxHeartbeats 4000000
namespace K7
open PySem PySem.Spec PyProof.Rows L2 GX NdefX
section
variable {P : Program} {w : World} {K : PySem.W.Frag} {mg : Str → Option Value} {base : Heap}
theorem dh_snoc {H : Hp} {xs : List V} {fs : List Fm} (h : DhAll H xs (fs.map Fm.data)) (ne : fs ≠ []) : ∃ f y, fs = fs.dropLast ++ [f] ∧ xs = xs.dropLast ++ [y] ∧ xs[xs.length - 1]? = some y ∧ Dh H y f.data ∧ DhAll H xs.dropLast (fs.dropLast.map Fm.data) := by
  have hl := h.length
  rw [List.length_map] at hl
  have xne : xs ≠ [] := fun e => by rw [e] at hl; exact ne (List.eq_nil_of_length_eq_zero hl.symm)
  obtain ⟨pre, f, rfl⟩ : ∃ pre f, fs = pre ++ [f] := ⟨fs.dropLast, fs.getLast ne, (List.dropLast_concat_getLast ne).symm⟩
  obtain ⟨px, y, rfl⟩ : ∃ px y, xs = px ++ [y] := ⟨xs.dropLast, xs.getLast xne, (List.dropLast_concat_getLast xne).symm⟩
  have pl : px.length = pre.length := by simp at hl; exact hl
  have key : ∀ (ps : List V) (gs : List Fm), ps.length = gs.length → DhAll H (ps ++ [y]) ((gs ++ [f]).map Fm.data) → Dh H y f.data ∧ DhAll H ps (gs.map Fm.data) := by
    intro ps
    induction ps with
    | nil =>
      intro gs hg hh
      cases gs with
      | nil => cases hh with | cons a _ => exact ⟨a, .nil⟩
      | cons _ _ => simp at hg
    | cons p ps ih =>
      intro gs hg hh
      cases gs with
      | nil => simp at hg
      | cons g gs =>
        cases hh with
        | cons a b =>
          obtain ⟨r1, r2⟩ := ih gs (by simpa using hg) b
          exact ⟨r1, .cons a r2⟩
  obtain ⟨k1, k2⟩ := key px pre pl h
  exact ⟨f, y, by simp, by simp, by simp, k1, by simpa using k2⟩
theorem ok_leaves {k : Nat} (D : Pr P K mg) : FnOk P w K mg base CX0 (k + 1) D.leaves_of.f D.leaves_of.fd ["formula"] spLeaves := by
  obtain ⟨a_JOINTS, m_JOINTS, hJ⟩ := D.k_JOINTS
  refine D.leaves_of.F.ok sc_leaves_of (fun vs H Q E h => ?_) (fun cdv A outer s H vs Q E hr h => ?_)
  · obtain ⟨v, d, rfl, _⟩ := h
    rfl
  · obtain ⟨v, f, rfl, hd, hc, q⟩ := h
    refine ⟨_, (pss_cons (ps_set (i := 1) sc_leaves_of.nd rfl (.inl rfl) pe_dnewT)
      (pss_cons (ps_set (i := 2) sc_leaves_of.nd rfl (.inl rfl) (pe_lst (pa_cons (pv 0) pa_nil)))
      (pss_cons (ps_while PassesOwn.never (pt_truth (pv 2) (fun _ => rfl)) (pss_cons (ps_set (i := 3) sc_leaves_of.nd rfl (.inl rfl) (pe_bm0 PySem.F.plainAttrs_list PySem.F.slot_list_pop PySem.F.type_list_pop mt_pop (pv 2))) (pss_one (ps_if (pt_cmpR op_eq (pe_ix (r := rIxT K) ix_tup (pv 3) pe_int (fun _ _ => rfl)) pe_str (nomark _)) (pss_one (ps_expr (pe_bm PySem.F.plainAttrs_list PySem.F.slot_list_append PySem.F.type_list_append mt_append (pv 2) (pa_cons (pe_ix (r := rIxT K) ix_tup (pv 3) pe_int (fun _ _ => rfl)) pa_nil)))) (pss_one (ps_if (pt_cmpR op_in_seq (pe_ix (r := rIxT K) ix_tup (pv 3) pe_int (fun _ _ => rfl)) (pe_glob (v := .ref a_JOINTS) (by rfl) m_JOINTS rfl) (by rfl)) (pss_one (ps_expr (pe_bm PySem.F.plainAttrs_list PySem.F.slot_list_extend PySem.F.type_list_extend RG.mt_extT (pv 2) (pa_cons (pe_ix (r := rIxT K) ix_tup (pv 3) pe_int (fun _ _ => rfl)) pa_nil)))) (pss_one (ps_dput (L2.hu_of hr) (pv 1) (pv 3) pe_bl rfl))))))))
      (pss_one (ps_ret (pv 1)))))), ?_⟩
    intro Dd nD
    have sD := same_upd nD (o := .dT [])
    have eD : upd H Dd (.dT []) Dd = some (.dT []) := upd_same
    generalize upd H Dd (.dT []) = H1 at sD eD
    refine ⟨v, rfl, by show 1 ≤ sizeLine; decide, fun S nS => ?_⟩
    have sS := same_upd nS (o := .lst [v])
    have eS : upd H1 S (.lst [v]) S = some (.lst [v]) := upd_same
    have eD2 := sS _ _ eD
    have nHS : H S = none := none_of_same sD nS
    have nDS : Dd ≠ S := fun e => by rw [← e, eD] at nS; cases nS
    generalize upd H1 S (.lst [v]) = H2 at sS eS eD2
    refine ⟨fun m σ H' => ∃ xs fs kvs c3, m = cntL fs ∧ σ = [some v, some (.ref Dd), some (.ref S), c3] ∧ Same H H' ∧ H' Dd = some (.dT kvs) ∧ H' S = some (.lst xs) ∧ DhAll H xs (fs.map Fm.data) ∧ cntL fs + kvs.length ≤ f.cnt ∧
      ∀ j : List L2.Key, (j ∈ kvs.map (·.1) ∨ j ∈ (lvsL fs).map Fm.key) ↔ j ∈ f.lvs.map Fm.key, ⟨_, [v], [f], [], _, rfl, rfl, sD.trans sS, eD2, eS, .cons hd .nil, by simp [cntL], fun j => by simp [lvsL]⟩, ?_⟩
    rintro m σ H3 ⟨xs, fs, kvs, c3, rfl, rfl, s3, eD3, eS3, dx, bound, keys⟩
    refine ⟨.ref S, rfl, !xs.isEmpty, .inl ⟨xs, sqL eS3, rfl⟩, ?_⟩
    by_cases ne : fs = []
    · subst ne
      cases xs with
      | cons _ _ => cases dx
      | nil =>
        refine iteF ⟨.ref Dd, rfl, q Dd H3 s3 nD ⟨kvs, eD3, by omega, fun j => ?_⟩⟩
        rw [← keys j]
        simp [lvsL]
    obtain ⟨g, y, ef, ex, ey, hy, dx'⟩ := dh_snoc dx ne
    have xe : (!xs.isEmpty) = true := by rw [ex]; simp
    rw [xe]
    have cg := cnt_subs g
    have ec : cntL fs = cntL fs.dropLast + g.cnt := by
      have : cntL (fs.dropLast ++ [g]) = _ := cntL_app _ _
      rw [← ef] at this
      simpa [cntL] using this
    have el : lvsL fs = lvsL fs.dropLast ++ g.lvs := by
      have : lvsL (fs.dropLast ++ [g]) = _ := lvsL_app _ _
      rw [← ef] at this
      simpa [lvsL] using this
    refine iteT ⟨fun σ H' => ∃ m', m' < cntL fs ∧ ∃ xs fs kvs c3, m' = cntL fs ∧ σ = [some v, some (.ref Dd), some (.ref S), c3] ∧ Same H H' ∧ H' Dd = some (.dT kvs) ∧ H' S = some (.lst xs) ∧ DhAll H xs (fs.map Fm.data) ∧ cntL fs + kvs.length ≤ f.cnt ∧
      ∀ j : List L2.Key, (j ∈ kvs.map (·.1) ∨ j ∈ (lvsL fs).map Fm.key) ↔ j ∈ f.lvs.map Fm.key, fun _ _ z => z, ?_⟩
    have upS : ∀ zs : List V, Same H (upd H3 S (.lst zs)) := fun zs b o e => by rw [upd_ne (fun z => by rw [z, nHS] at e; cases e)]; exact s3 _ _ e
    refine ⟨.ref S, rfl, .inl ⟨rfl, _, sqL eS3⟩, S, xs, y, rfl, rfl, eS3, ey, ?_⟩
    have s4 := upS xs.dropLast
    have eS4 : upd H3 S (.lst xs.dropLast) S = some (.lst xs.dropLast) := upd_same
    have eD4 : upd H3 S (.lst xs.dropLast) Dd = some (.dT kvs) := by rw [upd_ne nDS]; exact eD3
    generalize upd H3 S (.lst xs.dropLast) = H4 at s4 eS4 eD4
    have upS4 : ∀ zs : List V, Same H (upd H4 S (.lst zs)) := fun zs b o e => by rw [upd_ne (fun z => by rw [z, nHS] at e; cases e)]; exact s4 _ _ e
    have lx : xs.dropLast.length ≤ 100000 := by
      have := dx'.length
      rw [List.length_map] at this
      have h2 : fs.dropLast.length ≤ cntL fs.dropLast := by
        generalize fs.dropLast = l
        induction l with
        | nil => simp
        | cons a r ih => have := a.cnt_pos; simp only [List.length_cons, cntL]; omega
      omega
    -- a part that isn't a leaf: its own parts are put
    have push : ∀ (zs : List V), DhAll H zs (g.subs.map Fm.data) → g.isLeaf = false → ∃ m', m' < cntL fs ∧ ∃ xs' fs' kvs' c3', m' = cntL fs' ∧ [some v, some (.ref Dd), some (.ref S), some y] = [some v, some (.ref Dd), some (.ref S), c3'] ∧ Same H (upd H4 S (.lst (xs.dropLast ++ zs))) ∧ upd H4 S (.lst (xs.dropLast ++ zs)) Dd = some (.dT kvs') ∧
        upd H4 S (.lst (xs.dropLast ++ zs)) S = some (.lst xs') ∧ DhAll H xs' (fs'.map Fm.data) ∧ cntL fs' + kvs'.length ≤ f.cnt ∧ ∀ j : List L2.Key, (j ∈ kvs'.map (·.1) ∨ j ∈ (lvsL fs').map Fm.key) ↔ j ∈ f.lvs.map Fm.key := fun zs hz lf => by
      refine ⟨_, ?_, xs.dropLast ++ zs, fs.dropLast ++ g.subs, kvs, _, rfl, rfl, upS4 _, by rw [upd_ne nDS]; exact eD4, upd_same, ?_, ?_, fun j => ?_⟩
      · rw [cntL_app]; omega
      · rw [List.map_append]; exact DhAll.app _ _ _ _ dx' hz
      · rw [cntL_app]; omega
      · rw [← keys j, el, lvsL_app, subs_lvs lf]
    obtain ⟨a, rfl, cs⟩ := subs_dh hy
    rcases cs with cs | cs | cs | ⟨g2, x2, rfl, ea, h2⟩ | ⟨w2, gs, a2, zs, rfl, ea, ea2, hz⟩
    iterate 3
      obtain ⟨leaf, ea⟩ : g.isLeaf = true ∧ H a = some (.tup (g.key.map kV)) := by
        first
        | (obtain ⟨b, rfl, e⟩ := cs; exact ⟨rfl, e⟩)
        | (obtain ⟨b, c, rfl, e⟩ := cs; exact ⟨rfl, e⟩)
      obtain ⟨kk, k2, ek, n1, n2⟩ : ∃ kk k2, g.key = [.inr kk, k2] ∧ kk ≠ "not" ∧ (["and", "or"] : List Str).any (fun y => decide (kk = y)) = false := by
        first
        | (obtain ⟨b, rfl, e⟩ := cs; exact ⟨_, _, rfl, by simp, by simp⟩)
        | (obtain ⟨b, c, rfl, e⟩ := cs; exact ⟨_, _, rfl, by cases b <;> simp [eK], by cases b <;> simp [eK]⟩)
      have ea4 := s4 _ _ ea
      refine ⟨.ref a, rfl, a, g.key.map kV, 0, .str kk, rfl, rfl, sqT ea4, by rw [ek]; rfl, rfl, _, rfl, ?_⟩
      rw [strEq, decide_eq_false n1]
      refine iteF ⟨.ref a, rfl, a, g.key.map kV, 0, .str kk, rfl, rfl, sqT ea4, by rw [ek]; rfl, a_JOINTS, (["and", "or"] : List Str).map V.str, rfl, .inr (hJ H4), rfl, rfl, _, rfl, ?_⟩
      show if (if false = true then _ else inV (.str kk) ((["and", "or"] : List Str).map V.str)) = true then _ else _
      rw [if_neg Bool.false_ne_true, inStr, n2]
      refine iteF ⟨.ref Dd, rfl, .ref a, rfl, Dd, _, rfl, DPut.t eD4 ea4 (by rw [sizeLine_eq]; omega), ?_⟩
      have lp := len_put kvs g.key (V.bl true)
      refine ⟨_, ?_, xs.dropLast, fs.dropLast, putK kvs g.key (.bl true), _, rfl, rfl, fun b o e => by rw [upd_ne (fun z => by rw [z, nD] at e; cases e)]; exact s4 _ _ e, upd_same, by rw [upd_ne (Ne.symm nDS)]; exact eS4, dx', ?_, fun j => ?_⟩
      · have := g.cnt_pos; omega
      · have := g.cnt_pos; omega
      · rw [← keys j, keys_put, el, List.map_append, List.mem_append, (leaf_lvs leaf).1]
        simp only [List.map_cons, List.map_nil, List.mem_singleton]
        constructor
        · rintro ((h | h) | h)
          · exact .inl h
          · exact .inr (.inr h)
          · exact .inr (.inl h)
        · rintro (h | h | h)
          · exact .inl (.inl h)
          · exact .inr h
          · exact .inl (.inr h)
    · have ea4 := s4 _ _ ea
      refine ⟨.ref a, rfl, a, _, 0, .str "not", rfl, rfl, sqT ea4, rfl, rfl, _, rfl, ?_⟩
      rw [strEq, decide_eq_true rfl]
      exact iteT ⟨.ref S, rfl, .inl ⟨rfl, _, sqL eS4⟩, .ref a, rfl, a, _, 1, x2, rfl, rfl, sqT ea4, rfl, S, _, x2, rfl, rfl, eS4, by rw [sizeLine_eq]; omega, push [x2] (.cons h2 .nil) rfl⟩
    · have ea4 := s4 _ _ ea
      refine ⟨.ref a, rfl, a, _, 0, .str (jK w2), rfl, rfl, sqT ea4, rfl, rfl, _, rfl, ?_⟩
      rw [strEq, decide_eq_false (by cases w2 <;> simp [jK])]
      refine iteF ⟨.ref a, rfl, a, _, 0, .str (jK w2), rfl, rfl, sqT ea4, rfl, a_JOINTS, (["and", "or"] : List Str).map V.str, rfl, .inr (hJ H4), rfl, rfl, _, rfl, ?_⟩
      show if (if false = true then _ else inV (.str (jK w2)) ((["and", "or"] : List Str).map V.str)) = true then _ else _
      rw [if_neg Bool.false_ne_true, inStr, show (["and", "or"] : List Str).any (fun y => decide (jK w2 = y)) = true by cases w2 <;> simp [jK]]
      have zl := hz.length
      rw [List.length_map] at zl
      have gl : gs.length ≤ cntL gs := by
        have : ∀ l : List Fm, l.length ≤ cntL l := fun l => by
          induction l with
          | nil => simp
          | cons a r ih => have := a.cnt_pos; simp only [List.length_cons, cntL]; omega
        exact this gs
      have : (Fm.joint w2 gs).cnt = cntL gs + 1 := by simp [Fm.cnt]
      exact iteT ⟨.ref S, rfl, .inl ⟨rfl, _, sqL eS4⟩, .ref a, rfl, a, _, 1, .ref a2, rfl, rfl, sqT ea4, rfl, S, a2, _, zs, rfl, rfl, eS4, sqT (s4 _ _ ea2), by rw [sizeLine_eq]; omega, push zs hz rfl⟩
end
end K7

set_option Elab.async false
set_option linter.all false
set_option maxRecDepth 100000
set_option maxHeartbeats 4000000
namespace K7
open PySem PySem.Spec PyProof.Rows L2 GX NdefX
open SX
/-! ### the names a formula tells -/
def nmOf : Fm → Option Str
  | .name x => some x
  | .edge _ x => some x
  | _ => none
def edOf : Fm → Option Str
  | .edge _ x => some x
  | _ => none
def Fm.nms (f : Fm) : List Str := f.lvs.filterMap nmOf
def Fm.eds (f : Fm) : List Str := f.lvs.filterMap edOf
def bName : List L2.Key → Bool
  | [.inr k, _] => decide (k ≠ "bit")
  | _ => false
def bEdge : List L2.Key → Bool
  | [.inr k, _] => (["rise", "fall"] : List Str).any fun y => decide (k = y)
  | _ => false
def gOne (kk : List L2.Key) : L2.Key := kk.getD 1 (.inl 0)
theorem leaf_key {g : Fm} (h : g.isLeaf = true) : ∃ k k2, g.key = [.inr k, k2] := by
  cases g with
  | bit b => exact ⟨_, _, rfl⟩
  | name x => exact ⟨_, _, rfl⟩
  | edge r x => exact ⟨_, _, rfl⟩
  | not _ => cases h
  | joint _ _ => cases h
theorem name_leaf {g : Fm} (h : g.isLeaf = true) (x : Str) : (bName g.key = true ∧ gOne g.key = .inr x) ↔ nmOf g = some x := by
  cases g with
  | bit b => simp [Fm.key, bName, nmOf]
  | name y => simp [Fm.key, bName, nmOf, gOne]
  | edge r y => cases r <;> simp [Fm.key, bName, nmOf, gOne, eK]
  | not _ => cases h
  | joint _ _ => cases h
theorem edge_leaf {g : Fm} (h : g.isLeaf = true) (x : Str) : (bEdge g.key = true ∧ gOne g.key = .inr x) ↔ edOf g = some x := by
  cases g with
  | bit b => simp [Fm.key, bEdge, edOf]
  | name y => simp [Fm.key, bEdge, edOf, gOne]
  | edge r y => cases r <;> simp [Fm.key, bEdge, edOf, gOne, eK]
  | not _ => cases h
  | joint _ _ => cases h
theorem name_txt {g : Fm} (h : g.isLeaf = true) (b : bName g.key = true) : ∃ x, gOne g.key = .inr x := by
  cases g with
  | bit b => simp [Fm.key, bName] at b
  | name y => exact ⟨y, rfl⟩
  | edge r y => exact ⟨y, rfl⟩
  | not _ => cases h
  | joint _ _ => cases h
theorem edge_txt {g : Fm} (h : g.isLeaf = true) (b : bEdge g.key = true) : ∃ x, gOne g.key = .inr x := by
  cases g with
  | bit b => simp [Fm.key, bEdge] at b
  | name y => exact ⟨y, rfl⟩
  | edge r y => exact ⟨y, rfl⟩
  | not _ => cases h
  | joint _ _ => cases h
/-- ys are just the names told, in order, each once -/
def Told (ys zs : List Str) : Prop := Up ys ∧ ys.Nodup ∧ ∀ z, z ∈ ys ↔ z ∈ zs
def spTold (g : Fm → List Str) : Sp := fun vs H Q _ => ∃ (v : V) (f : Fm), vs = [v] ∧ Dh H v f.data ∧ f.cnt ≤ 3900 ∧ ∀ ys a H1, Told ys (g f) → Same H H1 → H1 a = some (.tup (ys.map V.str)) → Q (.ref a) H1
def spEdges : Sp := fun vs H Q _ => ∃ (v : V) (f : Fm), vs = [v] ∧ Dh H v f.data ∧ f.cnt ≤ 3900 ∧ ∀ H1, Same H H1 → Q (.bl (decide (f.eds ≠ []))) H1
def spToldC (C : Addr) (g : Fm → List Str) : Sp := fun vs H Q E => ∃ (v : V) (d : PyData), vs = [v] ∧ Arg H v d ∧ (formL 40 [d] = false → RaiN E C H) ∧
  (formL 40 [d] = true → ∃ f : Fm, d = f.data ∧ f.cnt ≤ 3900 ∧ ∀ ys a H1, Told ys (g f) → Same H H1 → H1 a = some (.tup (ys.map V.str)) → Q (.ref a) H1)
def spPlain (C : Addr) : Sp := fun vs H Q E => ∃ (v : V) (d : PyData), vs = [v] ∧ Arg H v d ∧ (formL 40 [d] = false → RaiN E C H) ∧ (formL 40 [d] = true → ∃ f : Fm, d = f.data ∧ f.cnt ≤ 3900 ∧ ∀ H1, Same H H1 → Q (.bl (decide (f.eds = []))) H1)
/-- the keys of the set are the names told -/
theorem told_keys {f : Fm} {kvs : List (List L2.Key × V)} {ks : List L2.Key} {B : List L2.Key → Bool} {h : Fm → Option Str} (keys : ∀ k, k ∈ kvs.map (·.1) ↔ k ∈ f.lvs.map Fm.key) (mem : ∀ k, k ∈ ks ↔ ∃ kk ∈ kvs.map (·.1), B kk = true ∧ gOne kk = k)
    (hb : ∀ g : Fm, g.isLeaf = true → ∀ x, (B g.key = true ∧ gOne g.key = .inr x) ↔ h g = some x) (ht : ∀ g : Fm, g.isLeaf = true → B g.key = true → ∃ x, gOne g.key = .inr x) :
    ks = (ks.map kt).map Sum.inr ∧ ∀ x, x ∈ ks.map kt ↔ x ∈ f.lvs.filterMap h := by
  have all : ∀ k ∈ ks, ∃ x, k = .inr x := fun k mk => by
    obtain ⟨kk, m, b, e⟩ := (mem k).mp mk
    obtain ⟨g, mg, rfl⟩ := List.mem_map.mp ((keys kk).mp m)
    obtain ⟨x, ex⟩ := ht g (lvs_leaf f g mg) b
    exact ⟨x, e ▸ ex⟩
  have e1 : ks = (ks.map kt).map Sum.inr := by
    rw [List.map_map]
    refine (List.map_id ks).symm.trans (List.map_congr_left fun k mk => ?_)
    obtain ⟨x, rfl⟩ := all k mk
    rfl
  refine ⟨e1, fun x => ?_⟩
  have e2 : x ∈ ks.map kt ↔ (Sum.inr x : L2.Key) ∈ ks := by
    constructor
    · intro m
      obtain ⟨k, mk, e⟩ := List.mem_map.mp m
      obtain ⟨y, rfl⟩ := all k mk
      rw [← show y = x from e]; exact mk
    · intro m; exact List.mem_map.mpr ⟨_, m, rfl⟩
  rw [e2, mem, List.mem_filterMap]
  constructor
  · rintro ⟨kk, m, b, e⟩
    obtain ⟨g, mg, rfl⟩ := List.mem_map.mp ((keys kk).mp m)
    exact ⟨g, mg, (hb g (lvs_leaf f g mg) x).mp ⟨b, e⟩⟩
  · rintro ⟨g, mg, e⟩
    obtain ⟨b, e3⟩ := (hb g (lvs_leaf f g mg) x).mpr e
    exact ⟨g.key, (keys _).mpr (List.mem_map.mpr ⟨g, mg, rfl⟩), b, e3⟩
section
variable {P : Program} {w : World} {K : PySem.W.Frag} {mg : Str → Option Value} {base : Heap}
theorem key_got {f : Fm} {kvs : List (List L2.Key × V)} {kk : List L2.Key} (keys : ∀ k, k ∈ kvs.map (·.1) ↔ k ∈ f.lvs.map Fm.key) (m : kk ∈ kvs.map (·.1)) : ∃ k k2, kk = [.inr k, k2] := by
  obtain ⟨g, mg, rfl⟩ := List.mem_map.mp ((keys kk).mp m)
  exact leaf_key (lvs_leaf f g mg)
theorem ok_told_names {k : Nat} (D : Pr P K mg) : FnOk P w K mg base CX0 (k + 2) D.told_names.f D.told_names.fd ["formula"] (spTold Fm.nms) := by
  have G_leaves_of : FnOk P w K mg base CX0 (k + 1) D.leaves_of.f D.leaves_of.fd ["formula"] spLeaves := ok_leaves D
  refine D.told_names.F.ok sc_told_names (fun vs H Q E h => ?_) (fun cdv A outer s H vs Q E hr h => ?_)
  · obtain ⟨v, d, rfl, _⟩ := h
    rfl
  · obtain ⟨v, f, rfl, hd, hc, q⟩ := h
    refine ⟨_, (pss_one (ps_ret (pe_callTy call_tuple_of (by rfl) D.B.tuple (by decide +kernel) (pa_cons (pe_callB (SX.cr_sortX rfl) (by rfl) D.B.sorted (by decide +kernel) (pa_cons (SX.pe_set (own := [("leaf", 1)]) (g := (gName 1)) rfl sc_told_names.nd (pi_keys (RG.pe_froze (pe_call G_leaves_of (hr.mono (by omega)) (by rfl) D.leaves_of.g D.leaves_of.F.kp D.leaves_of.b .nil pass0 (pa_cons (pv 0) pa_nil)))) (blkOk_by (own := [("leaf", 1)]) (N := n_told_names) (sc := defScope s_told_names) (by decide +kernel)) (fun _ _ _ _ _ => (pg_name (i := 1) sc_told_names.nd rfl (.inl rfl))) (fun _ _ _ _ _ => (pts_one (pt_cmpR op_ne (pe_ix (r := rIxT K) ix_tup (pv 1) pe_int (fun _ _ => rfl)) pe_str (nomark _)))) (fun _ _ _ _ _ => (pe_ix (r := rIxT K) ix_tup (pv 1) pe_int (fun _ _ => rfl)))) pa_nil)) pa_nil)))), ?_⟩
    refine ⟨v, rfl, v, f, rfl, hd, by omega, fun Dd H1 s1 nD ld => ?_⟩
    obtain ⟨kvs, eD, few, keys⟩ := ld
    refine ⟨Dd, .dT kvs, rfl, eD, trivial, fun od => ?_⟩
    have sF : Same H (upd H1 Dd (.frz od (.dT kvs))) := fun b o e => by rw [upd_ne (fun z => by rw [z, nD] at e; cases e)]; exact s1 _ _ e
    have eF : upd H1 Dd (.frz od (.dT kvs)) Dd = some (.frz od (.dT kvs)) := upd_same
    generalize upd H1 Dd (.frz od (.dT kvs)) = H2 at sF eF
    refine ⟨Dd, od, rfl, .inr ⟨kvs, eF, setKT (c := 1) bName gOne eF (by omega) ?_ ?_ ?_⟩⟩
    · intro kk qa H3 Qt m e s3 h
      obtain ⟨k1, k2, rfl⟩ := key_got keys m
      refine ⟨.ref qa, rfl, qa, _, 0, .str k1, rfl, rfl, sqT e, rfl, rfl, _, rfl, ?_⟩
      show Qt (!decide (V.str k1 = V.str "bit")) H3
      rw [strEq]
      have : bName [.inr k1, k2] = !decide (k1 = "bit") := by simp [bName]
      rw [this] at h
      exact h
    · intro kk qa H3 Qe m b e s3 h
      obtain ⟨k1, k2, rfl⟩ := key_got keys m
      exact ⟨.ref qa, rfl, qa, _, 1, kV k2, rfl, rfl, sqT e, rfl, h⟩
    · intro S H3 ks nS s3 eS mem
      obtain ⟨e1, e2⟩ := told_keys keys mem (fun g l x => name_leaf l x) (fun g l b => name_txt l b)
      rw [e1] at eS
      refine ⟨S, ks.map kt, rfl, eS, fun ys L pm nd up nL => ?_⟩
      have sL := same_upd nL (o := .lst (ys.map V.str))
      refine tupOf (.inl upd_same) fun p H5 s5 ep => q ys p H5 ⟨up, nd, fun z => by rw [pm.mem_iff]; exact e2 z⟩ (sF.trans (s3.trans (sL.trans s5))) ep
theorem ok_has_edges {k : Nat} (D : Pr P K mg) : FnOk P w K mg base CX0 (k + 2) D.has_edges.f D.has_edges.fd ["formula"] spEdges := by
  have G_leaves_of : FnOk P w K mg base CX0 (k + 1) D.leaves_of.f D.leaves_of.fd ["formula"] spLeaves := ok_leaves D
  obtain ⟨a_EDGES, m_EDGES, hE⟩ := D.k_EDGES
  refine D.has_edges.F.ok sc_has_edges (fun vs H Q E h => ?_) (fun cdv A outer s H vs Q E hr h => ?_)
  · obtain ⟨v, d, rfl, _⟩ := h
    rfl
  · obtain ⟨v, f, rfl, hd, hc, q⟩ := h
    refine ⟨_, (pss_one (ps_ret (pe_callB (cr_any rfl) (by rfl) D.B.any (by decide +kernel) (pa_cons (pe_lc (own := [("leaf", 1)]) (g := (gName 1)) (tt := tYes) rfl sc_has_edges.nd (pi_keys (RG.pe_froze (pe_call G_leaves_of (hr.mono (by omega)) (by rfl) D.leaves_of.g D.leaves_of.F.kp D.leaves_of.b .nil pass0 (pa_cons (pv 0) pa_nil)))) (blkOk_by (own := [("leaf", 1)]) (N := n_has_edges) (sc := defScope s_has_edges) (by decide +kernel)) (fun _ _ _ _ _ => (pg_name (i := 1) sc_has_edges.nd rfl (.inl rfl))) (fun _ _ _ _ _ => pts_nil) (fun _ _ _ _ _ => (pe_cmpR (r := rIn K false) op_in_seq (pe_ix (r := rIxT K) ix_tup (pv 1) pe_int (fun _ _ => rfl)) (pe_glob (v := .ref a_EDGES) (by rfl) m_EDGES rfl) (by rfl)))) pa_nil)))), ?_⟩
    refine ⟨v, rfl, v, f, rfl, hd, by omega, fun Dd H1 s1 nD ld => ?_⟩
    obtain ⟨kvs, eD, few, keys⟩ := ld
    refine ⟨Dd, .dT kvs, rfl, eD, trivial, fun od => ?_⟩
    have sF : Same H (upd H1 Dd (.frz od (.dT kvs))) := fun b o e => by rw [upd_ne (fun z => by rw [z, nD] at e; cases e)]; exact s1 _ _ e
    have eF : upd H1 Dd (.frz od (.dT kvs)) Dd = some (.frz od (.dT kvs)) := upd_same
    generalize upd H1 Dd (.frz od (.dT kvs)) = H2 at sF eF
    refine ⟨Dd, od, rfl, .inr ⟨kvs, eF, lcKT (c := 1) bEdge eF (by omega) ?_ ?_⟩⟩
    · intro kk qa H3 Qe m e s3 h
      obtain ⟨k1, k2, rfl⟩ := key_got keys m
      refine ⟨.ref qa, rfl, qa, _, 0, .str k1, rfl, rfl, sqT e, rfl, a_EDGES, (["rise", "fall"] : List Str).map V.str, rfl, .inr (hE H3), rfl, rfl, ?_⟩
      show Qe (.bl (if false = true then _ else inV (.str k1) ((["rise", "fall"] : List Str).map V.str))) H3
      rw [if_neg Bool.false_ne_true, inStr]
      exact h
    · intro L H3 nL s3 eL
      refine ⟨L, _, rfl, sqL eL, ?_⟩
      have e : (kvs.map fun p => bEdge p.1).any id = decide (f.eds ≠ []) := by
        rw [List.any_map]
        by_cases h : f.eds = []
        · rw [decide_eq_false (fun z => z h)]
          rw [List.any_eq_false]
          intro p mp z
          obtain ⟨g, mg, eg⟩ := List.mem_map.mp ((keys p.1).mp (List.mem_map.mpr ⟨p, mp, rfl⟩))
          have z : bEdge p.1 = true := z
          rw [← eg] at z
          obtain ⟨x, ex⟩ := edge_txt (lvs_leaf f g mg) z
          have := (edge_leaf (lvs_leaf f g mg) x).mp ⟨z, ex⟩
          have m : x ∈ f.eds := List.mem_filterMap.mpr ⟨g, mg, this⟩
          rw [h] at m; simp at m
        · rw [decide_eq_true h]
          obtain ⟨x, mx⟩ := List.exists_mem_of_ne_nil _ h
          obtain ⟨g, mg, eg⟩ := List.mem_filterMap.mp mx
          obtain ⟨b, -⟩ := (edge_leaf (lvs_leaf f g mg) x).mpr eg
          obtain ⟨p, mp, ep⟩ := List.mem_map.mp ((keys g.key).mpr (List.mem_map.mpr ⟨g, mg, rfl⟩))
          rw [List.any_eq_true]
          exact ⟨p, mp, by show bEdge p.1 = true; rw [ep]; exact b⟩
      rw [e]
      exact q H3 (sF.trans s3)
theorem ok_plain {k : Nat} (D : Pr P K mg) : FnOk P w K mg base (CX P w) (k + 6) D.is_plain.f D.is_plain.fd ["formula"] (spPlain D.BadFormula.C) := by
  have G_check_formula : FnOk P w K mg base (CX P w) (k + 5) D.check_formula.f D.check_formula.fd ["formula"] (spCheck D.BadFormula.C) := ok_check D
  have G_has_edges : FnOk P w K mg base CX0 (k + 2) D.has_edges.f D.has_edges.fd ["formula"] spEdges := ok_has_edges D
  refine D.is_plain.F.okX sc_is_plain (fun vs H Q E h => ?_) (fun cdv A outer s H vs Q E hr h => ?_)
  · obtain ⟨v, d, rfl, _⟩ := h
    rfl
  · obtain ⟨v, d, rfl, ad, q1, q2⟩ := h
    refine ⟨_, (pss_cons (ps_expr (pe_call G_check_formula (hr.mono (by omega)) (by rfl) D.check_formula.g D.check_formula.F.kp D.check_formula.b .nil (passes_call (takes_of rfl rfl rfl rfl) (fun _ _ _ _ h => h)) (pa_cons (pv 0) pa_nil)))
      (pss_one (ps_ret (pe_not (pe_call G_has_edges (hr.mono (by omega)) (by rfl) D.has_edges.g D.has_edges.F.kp D.has_edges.b .nil pass0 (pa_cons (pv 0) pa_nil)))))), ?_⟩
    refine ⟨v, rfl, v, d, rfl, ad, fun e H1 s1 => ?_, q1⟩
    obtain ⟨f, rfl, hc, q⟩ := q2 e
    refine ⟨v, rfl, v, f, rfl, ad.dh.same s1, hc, fun H2 s2 => ⟨_, rfl, ?_⟩⟩
    have q := q H2 (s1.trans s2)
    rw [show (!decide (f.eds ≠ [])) = decide (f.eds = []) by by_cases h : f.eds = [] <;> simp [h]]
    exact q
theorem ok_names {k : Nat} (D : Pr P K mg) : FnOk P w K mg base (CX P w) (k + 6) D.names_of.f D.names_of.fd ["formula"] (spToldC D.BadFormula.C Fm.nms) := by
  have G_check_formula : FnOk P w K mg base (CX P w) (k + 5) D.check_formula.f D.check_formula.fd ["formula"] (spCheck D.BadFormula.C) := ok_check D
  have G_told_names : FnOk P w K mg base CX0 (k + 2) D.told_names.f D.told_names.fd ["formula"] (spTold Fm.nms) := ok_told_names D
  refine D.names_of.F.okX sc_names_of (fun vs H Q E h => ?_) (fun cdv A outer s H vs Q E hr h => ?_)
  · obtain ⟨v, d, rfl, _⟩ := h
    rfl
  · obtain ⟨v, d, rfl, ad, q1, q2⟩ := h
    refine ⟨_, (pss_cons (ps_expr (pe_call G_check_formula (hr.mono (by omega)) (by rfl) D.check_formula.g D.check_formula.F.kp D.check_formula.b .nil (passes_call (takes_of rfl rfl rfl rfl) (fun _ _ _ _ h => h)) (pa_cons (pv 0) pa_nil)))
      (pss_one (ps_ret (pe_call G_told_names (hr.mono (by omega)) (by rfl) D.told_names.g D.told_names.F.kp D.told_names.b .nil pass0 (pa_cons (pv 0) pa_nil))))), ?_⟩
    refine ⟨v, rfl, v, d, rfl, ad, fun e H1 s1 => ?_, q1⟩
    obtain ⟨f, rfl, hc, q⟩ := q2 e
    exact ⟨v, rfl, v, f, rfl, ad.dh.same s1, hc, fun ys a H2 t s2 => q ys a H2 t (s1.trans s2)⟩
end
end K7

set_option Elab.async false
set_option linter.all false
set_option maxRecDepth 100000
set_option maxHeartbeats 4000000
namespace K7
open PySem PySem.Spec PyProof.Rows L2 GX NdefX
def spPlainC (C : Addr) : Sp := fun vs H Q E => ∃ (v : V) (d : PyData), vs = [v] ∧ Arg H v d ∧ (formL 40 [d] = false → RaiN E C H) ∧
  (formL 40 [d] = true → ∃ f : Fm, d = f.data ∧ f.cnt ≤ 3900 ∧ (f.eds ≠ [] → RaiN E C H) ∧ (f.eds = [] → ∀ H1, Same H H1 → Q .non H1))
section
variable {P : Program} {w : World} {K : PySem.W.Frag} {mg : Str → Option Value} {base : Heap}
theorem ok_checkp {k : Nat} (D : Pr P K mg) : FnOk P w K mg base (CX P w) (k + 7) D.check_plain.f D.check_plain.fd ["formula"] (spPlainC D.BadFormula.C) := by
  have G_is_plain : FnOk P w K mg base (CX P w) (k + 6) D.is_plain.f D.is_plain.fd ["formula"] (spPlain D.BadFormula.C) := ok_plain D
  have GX_BadFormula : FnOk P w K mg base CX0 (k + 1) D.BadFormula.f D.BadFormula.fd ["self"] (spShape D.BadFormula.C) := ok_badf D
  refine D.check_plain.F.okX sc_check_plain (fun vs H Q E h => ?_) (fun cdv A outer s H vs Q E hr h => ?_)
  · obtain ⟨v, d, rfl, _⟩ := h
    rfl
  · obtain ⟨v, d, rfl, ad, q1, q2⟩ := h
    refine ⟨_, (pss_one (ps_if (pt_not (pt_val (pe_call G_is_plain (hr.mono (by omega)) (by rfl) D.is_plain.g D.is_plain.F.kp D.is_plain.b .nil (passes_call (takes_of rfl rfl rfl rfl) (fun _ _ _ _ h => h)) (pa_cons (pv 0) pa_nil)))) (pss_one (ps_raise rfl (takes_of rfl rfl rfl rfl) (pmk_oex0 D.BadFormula.T.O D.BadFormula.T.iC D.BadFormula.T.tI GX_BadFormula (hr.mono (by omega)) D.BadFormula.b pass0 (by rfl) D.BadFormula.g))) pss_nil)), ?_⟩
    refine ⟨v, rfl, v, d, rfl, ad, q1, fun e => ?_⟩
    obtain ⟨f, rfl, hc, r1, r2⟩ := q2 e
    refine ⟨f, rfl, hc, fun H1 s1 => ⟨_, rfl, ?_⟩⟩
    by_cases h : f.eds = []
    · rw [decide_eq_true h]
      exact iteF (r2 h H1 s1)
    · rw [decide_eq_false h]
      exact iteT (mkO_badf (r1 h) s1)
end
end K7

set_option Elab.async false
set_option linter.all false
set_option maxRecDepth 100000
set_option maxHeartbeats 4000000
namespace K7
open PySem PySem.Spec PyProof.Rows L2 GX NdefX
/-! ### bits of numbers that are not below 0 -/
def rAndN : R2 := fun x y H Q => ∃ m n : Nat, x = .int m ∧ y = .int n ∧ Q (.int ((m &&& n : Nat) : Int)) H
def rOrN : R2 := fun x y H Q => ∃ m n : Nat, x = .int m ∧ y = .int n ∧ Q (.int ((m ||| n : Nat) : Int)) H
def rXorN : R2 := fun x y H Q => ∃ m n : Nat, x = .int m ∧ y = .int n ∧ Q (.int ((m ^^^ n : Nat) : Int)) H
def rShlN : R2 := fun x y H Q => ∃ m n : Nat, x = .int m ∧ y = .int n ∧ m < 2 ^ 100000 ∧ n ≤ 100000 ∧ Q (.int ((m * 2 ^ n : Nat) : Int)) H
def rShrN : R2 := fun x y H Q => ∃ m n : Nat, x = .int m ∧ y = .int n ∧ Q (.int ((m / 2 ^ n : Nat) : Int)) H
section
variable {X : Cx}
theorem op_AndN : OpR X (binaryOp .BitAnd) rAndN := by
  intro pins s σ H x y v u Q I rx ry h
  obtain ⟨m, n, rfl, rfl, q⟩ := h
  refine op_and pins s σ H _ _ v u Q I rx ry ⟨m, n, rfl, rfl, ?_⟩
  show Q (.int (Builtin.bitAnd m n)) H
  rw [bitAnd_pp (by omega) (by omega), Int.toNat_natCast, Int.toNat_natCast]; exact q
theorem op_OrN : OpR X (binaryOp .BitOr) rOrN := by
  intro pins s σ H x y v u Q I rx ry h
  obtain ⟨m, n, rfl, rfl, q⟩ := h
  refine op_or pins s σ H _ _ v u Q I rx ry ⟨m, n, rfl, rfl, ?_⟩
  show Q (.int (Builtin.bitOr m n)) H
  rw [Bits.bitOr_pp (by omega) (by omega), Int.toNat_natCast, Int.toNat_natCast]; exact q
theorem op_XorN : OpR X (binaryOp .BitXor) rXorN := by
  intro pins s σ H x y v u Q I rx ry h
  obtain ⟨m, n, rfl, rfl, q⟩ := h
  refine op_xor pins s σ H _ _ v u Q I rx ry ⟨m, n, rfl, rfl, ?_⟩
  show Q (.int (Builtin.bitXor m n)) H
  rw [Bits.bitXor_pp (by omega) (by omega), Int.toNat_natCast, Int.toNat_natCast]; exact q
theorem op_ShlN : OpR X (binaryOp .LShift) rShlN := by
  intro pins s σ H x y v u Q I rx ry h
  obtain ⟨m, n, rfl, rfl, hm, hn, q⟩ := h
  refine op_shlN pins s σ H _ _ v u Q I rx ry ⟨m, n, rfl, rfl, ⟨by omega, ?_⟩, ?_⟩
  · have : Builtin.Int.intBits (m : Int) ≤ 100000 := intBits_le (by rw [Int.natAbs_natCast]; exact hm)
    have : (2 : Int) ^ 27 = 134217728 := by decide
    omega
  · rw [Int.natCast_mul, Int.natCast_pow] at q; exact q
theorem op_ShrN : OpR X (binaryOp .RShift) rShrN := by
  intro pins s σ H x y v u Q I rx ry h
  obtain ⟨m, n, rfl, rfl, q⟩ := h
  refine op_shr pins s σ H _ _ v u Q I rx ry ⟨m, n, rfl, rfl, by omega, ?_⟩
  show Q (.int ((m : Int) / 2 ^ ((n : Int)).toNat)) H
  rw [Int.toNat_natCast, show ((m : Int) / 2 ^ n) = ((m / 2 ^ n : Nat) : Int) by rw [Int.natCast_ediv, Int.natCast_pow]; rfl]
  exact q
end
end K7

set_option Elab.async false
set_option linter.all false
set_option maxRecDepth 100000
set_option maxHeartbeats 4000000
namespace K7
open PySem PySem.Spec PyProof.Rows L2 GX NdefX
/-! ### columns: bit r of the column tells bit m of r -/
def ColW (m w c : Nat) : Prop := c < 2 ^ w ∧ ∀ r < w, c.testBit r = r.testBit m
theorem col_first (m : Nat) : ColW m (2 * 2 ^ m) ((2 ^ 2 ^ m - 1) * 2 ^ 2 ^ m) := by
  have e : 2 * 2 ^ m = 2 ^ m + 2 ^ m := by omega
  constructor
  · rw [e, Nat.pow_add]
    exact Nat.mul_lt_mul_of_pos_right (by have := Nat.two_pow_pos (2 ^ m); omega) (Nat.two_pow_pos _)
  · intro r hr
    rw [Nat.mul_comm, Nat.testBit_two_pow_mul, Nat.testBit_two_pow_sub_one]
    by_cases h : 2 ^ m ≤ r
    · obtain ⟨q, rfl⟩ : ∃ q, r = 2 ^ m + q := ⟨r - 2 ^ m, by omega⟩
      rw [Nat.testBit_two_pow_add_eq, decide_eq_true h, decide_eq_true (by omega), Nat.testBit_lt_two_pow (by omega)]; rfl
    · rw [decide_eq_false (by omega), Nat.testBit_lt_two_pow (by omega)]; rfl
theorem col_step {m j c : Nat} (hj : m < j) (h : ColW m (2 ^ j) c) : ColW m (2 * 2 ^ j) (c ||| c * 2 ^ 2 ^ j) := by
  obtain ⟨h1, h2⟩ := h
  have e : 2 * 2 ^ j = 2 ^ j + 2 ^ j := by omega
  constructor
  · refine Nat.or_lt_two_pow ?_ ?_
    · exact Nat.lt_of_lt_of_le h1 (Nat.pow_le_pow_right (by omega) (by omega))
    · rw [e, Nat.pow_add]
      exact Nat.mul_lt_mul_of_pos_right h1 (Nat.two_pow_pos _)
  · intro r hr
    rw [Nat.testBit_or, Nat.mul_comm c, Nat.testBit_two_pow_mul]
    by_cases h : 2 ^ j ≤ r
    · obtain ⟨q, rfl⟩ : ∃ q, r = 2 ^ j + q := ⟨r - 2 ^ j, by omega⟩
      rw [decide_eq_true h, Nat.testBit_two_pow_add_gt hj, show 2 ^ j + q - 2 ^ j = q by omega, h2 q (by omega)]
      have : c.testBit (2 ^ j + q) = false := Nat.testBit_lt_two_pow (Nat.lt_of_lt_of_le h1 (Nat.pow_le_pow_right (by omega) (by omega)))
      rw [this]; simp
    · rw [decide_eq_false (by omega), h2 r (by omega)]; simp
end K7

set_option Elab.async false
set_option linter.all false
set_option maxRecDepth 100000
set_option maxHeartbeats 4000000
namespace K7
open PySem PySem.Spec PyProof.Rows L2 GX NdefX
def spCols : Sp := fun vs H Q _ => ∃ n : Nat, vs = [.int n] ∧ n ≤ 12 ∧ ∀ (L : Addr) (cs : List Nat) (H1 : Hp), Same H H1 → H L = none → H1 L = some (.lst (nts cs)) → cs.length = n → (∀ i c, cs[i]? = some c → ColW (n - 1 - i) (2 ^ n) c) → Q (.ref L) H1
theorem sm2 {m e : Nat} (h : m < 2 ^ e) (he : e ≤ 100000) : m < 2 ^ 100000 := Nat.lt_of_lt_of_le h (Nat.pow_le_pow_right (by decide) he)
theorem pow_le12 {m : Nat} (h : m ≤ 12) : 2 ^ m ≤ 4096 := Nat.le_trans (Nat.pow_le_pow_right (by decide) h) (by decide)
section
variable {P : Program} {w : World} {K : PySem.W.Frag} {mg : Str → Option Value} {base : Heap}
theorem ok_cols {k : Nat} (D : Pr P K mg) : FnOk P w K mg base CX0 (k + 1) D.columns_of.f D.columns_of.fd ["many"] spCols := by
  refine D.columns_of.F.ok sc_columns_of (fun vs H Q E h => ?_) (fun cdv A outer s H vs Q E hr h => ?_)
  · obtain ⟨n, rfl, _⟩ := h
    rfl
  · obtain ⟨n, rfl, hn, q⟩ := h
    refine ⟨_, (pss_cons (ps_set (i := 1) sc_columns_of.nd rfl (.inl rfl) (pe_lst pa_nil))
      (pss_cons (ps_for PassesOwn.never rfl (pi_range1 (by rfl) D.B.range (pa_cons (pv 0) pa_nil)) (pg_name (i := 2) sc_columns_of.nd rfl (.inl rfl)) (pss_cons (ps_set (i := 3) sc_columns_of.nd rfl (.inl rfl) (pe_op (r := rShlN) op_ShlN pe_int (pe_op (r := rSubN) op_SubN (pe_op (r := rSubN) op_SubN (pv 0) pe_int) (pv 2)))) (pss_cons (ps_set (i := 4) sc_columns_of.nd rfl (.inl rfl) (pe_op (r := rShlN) op_ShlN (pe_op (r := rSubN) op_SubN (pe_op (r := rShlN) op_ShlN pe_int (pv 3)) pe_int) (pv 3))) (pss_cons (ps_set (i := 5) sc_columns_of.nd rfl (.inl rfl) (pe_op (r := rMultN) op_MultN pe_int (pv 3))) (pss_cons (ps_while PassesOwn.never (pt_cmpR op_lt (pv 5) (pe_op (r := rShlN) op_ShlN pe_int (pv 0)) (nomark _)) (pss_cons (ps_set (i := 4) sc_columns_of.nd rfl (.inl rfl) (pe_op (r := rOrN) op_OrN (pv 4) (pe_op (r := rShlN) op_ShlN (pv 4) (pv 5)))) (pss_one (ps_set (i := 5) sc_columns_of.nd rfl (.inl rfl) (pe_op (r := rMultN) op_MultN pe_int (pv 5)))))) (pss_one (ps_expr (pe_bm PySem.F.plainAttrs_list PySem.F.slot_list_append PySem.F.type_list_append mt_append (pv 1) (pa_cons (pv 4) pa_nil)))))))))
      (pss_one (ps_ret (pv 1))))), ?_⟩
    refine ⟨by show 0 ≤ sizeLine; omega, fun L nL => ⟨.int n, rfl, n, rfl, by omega, by omega, ?_⟩⟩
    refine forRg (n := n) (fun i σ H2 => (∃ c2 c3 c4 c5, σ = [some (.int n), some (.ref L), c2, c3, c4, c5]) ∧ Same H H2 ∧ ∃ cs : List Nat, H2 L = some (.lst (nts cs)) ∧ cs.length = i ∧ ∀ j c, cs[j]? = some c → ColW (n - 1 - j) (2 ^ n) c) ⟨⟨_, _, _, _, rfl⟩, same_upd nL, [], upd_same, rfl, fun j c e => by simp at e⟩ ?_ ?_
    · rintro i σ H2 hi ⟨⟨c2, c3, c4, c5, rfl⟩, s2, cs, e2, l2, hc⟩
      obtain ⟨m, em⟩ : ∃ m, m = n - 1 - i := ⟨_, rfl⟩
      have hm : m < n := by omega
      have pm := pow_le12 (m := m) (by omega)
      have pn := pow_le12 hn
      refine ⟨.int n, rfl, n, 1, rfl, rfl, by omega, .int i, rfl, n - 1, i, rfl, rfl, by omega, 1, n - 1 - i, rfl, rfl, sm2 (e := 1) (by decide) (by omega), by omega, ?_⟩
      rw [← em, Nat.one_mul]
      refine ⟨_, rfl, 1, 2 ^ m, rfl, rfl, sm2 (e := 1) (by decide) (by omega), by omega, ?_⟩
      rw [Nat.one_mul]
      have p1 := Nat.two_pow_pos (2 ^ m)
      refine ⟨2 ^ 2 ^ m, 1, rfl, rfl, p1, _, rfl, 2 ^ 2 ^ m - 1, 2 ^ m, rfl, rfl, sm2 (e := 2 ^ m) (by omega) (by omega), by omega, ?_⟩
      refine ⟨_, rfl, 2, 2 ^ m, rfl, rfl, by decide, ?_⟩
      refine while_by (fun σ H3 => ∃ j c, σ = [some (.int n), some (.ref L), some (.int i), some (.int (2 ^ m : Nat)), some (.int (c : Nat)), some (.int (2 ^ j : Nat))] ∧ m < j ∧ j ≤ n ∧ ColW m (2 ^ j) c ∧ H3 = H2) (fun (σ : L2.St) (_ : Hp) => match (σ[5]? : Option (Option V)) with | some (some (.int w)) => (2 ^ n - w).toNat | _ => 0) ⟨m + 1, (2 ^ 2 ^ m - 1) * 2 ^ 2 ^ m, ?_, by omega, by omega, ?_, rfl⟩ ?_ ?_
      · rw [Nat.pow_succ, Nat.mul_comm (2 ^ m) 2]; rfl
      · have := col_first m
        rw [Nat.pow_succ, Nat.mul_comm (2 ^ m) 2]; exact this
      · rintro σ H3 ⟨j, c, rfl, hmj, hjn, hcol, rfl⟩
        refine ⟨_, rfl, _, rfl, 1, n, rfl, rfl, sm2 (e := 1) (by decide) (by omega), by omega, (2 ^ j : Nat), (1 * 2 ^ n : Nat), rfl, rfl, _, rfl, ?_⟩
        rw [Nat.one_mul]
        by_cases hlt : 2 ^ j < 2 ^ n
        · have hj2 : j < n := (Nat.pow_lt_pow_iff_right (by decide)).mp hlt
          have pj := pow_le12 (m := j) (by omega)
          refine iteTq (decide_eq_true (by omega)) ⟨_, rfl, _, rfl, _, rfl, c, 2 ^ j, rfl, rfl, sm2 (e := 2 ^ j) hcol.1 (by omega), by omega, c, c * 2 ^ 2 ^ j, rfl, rfl, _, rfl, 2, 2 ^ j, rfl, rfl, by decide, ⟨j + 1, c ||| c * 2 ^ 2 ^ j, ?_, by omega, by omega, ?_, rfl⟩, ?_⟩
          · rw [Nat.pow_succ, Nat.mul_comm (2 ^ j) 2]; rfl
          · rw [Nat.pow_succ, Nat.mul_comm (2 ^ j) 2]; exact col_step hmj hcol
          · show ((2 : Int) ^ n - ((2 * 2 ^ j : Nat) : Int)).toNat < ((2 : Int) ^ n - ((2 ^ j : Nat) : Int)).toNat
            have e1 : ((2 : Int) ^ n) = ((2 ^ n : Nat) : Int) := by rw [Int.natCast_pow]; rfl
            have p2 := Nat.two_pow_pos j
            rw [e1]
            omega
        · have : j = n := by
            have := (Nat.pow_le_pow_iff_right (a := 2) (by decide)).mp (Nat.le_of_not_lt hlt)
            omega
          subst this
          refine iteFq (decide_eq_false (by omega)) ⟨.ref L, rfl, .inl ⟨rfl, _, sqL e2⟩, _, rfl, L, _, _, rfl, rfl, e2, by rw [nts_len, sizeLine_eq]; omega, ⟨_, _, _, _, rfl⟩, ?_, cs ++ [c], ?_, ?_, ?_⟩
          · exact fun b o e => by rw [upd_ne (ne_of_none e nL)]; exact s2 _ _ e
          · rw [upd_same]; unfold nts; rw [List.map_append]; rfl
          · rw [List.length_append, l2]; rfl
          · intro jj cc ecc
            rcases Nat.lt_or_ge jj cs.length with hl | hl
            · rw [List.getElem?_append_left hl] at ecc
              exact hc jj cc ecc
            · have hl2 := (List.getElem?_eq_some_iff.mp ecc).1
              rw [List.length_append, List.length_singleton] at hl2
              have ej : jj = i := by omega
              subst ej
              rw [List.getElem?_append_right (by omega), l2, Nat.sub_self] at ecc
              cases ecc
              rw [← em]; exact hcol
      · rintro σ H3 Q1 Q2 hq ⟨x, e1, y, e2', a1, a2, a3, a4, a5, a6, b1, b2, b3, b4, b5, b6, b7⟩
        exact ⟨x, e1, y, e2', a1, a2, a3, a4, a5, a6, b1, b2, b3, b4, b5, b6, hq _ _ b7⟩
    · rintro σ H2 ⟨⟨c2, c3, c4, c5, rfl⟩, s2, cs, e2, l2, hc⟩
      exact ⟨_, rfl, q L cs H2 s2 nL e2 l2 hc⟩
end
end K7

set_option Elab.async false
set_option linter.all false
set_option maxRecDepth 100000
set_option maxHeartbeats 4000000
namespace K7
open PySem PySem.Spec PyProof.Rows L2 GX NdefX
/-! ### texts as rows of signs -/
def T (l : List Nat) : Str := ⟨l.toArray⟩
@[simp] theorem T_list (l : List Nat) : (T l).cps.toList = l := rfl
@[simp] theorem T_size (l : List Nat) : (T l).cps.size = l.length := by simp [T]
@[simp] theorem T_len (l : List Nat) : (T l).length = l.length := by show (T l).cps.size = _; simp
theorem T_of (z : Str) : T z.cps.toList = z := Str.ext' (by simp [T])
theorem T_app (a b : List Nat) : T a ++ T b = T (a ++ b) := Str.ext' (by show (T a).cps ++ (T b).cps = _; simp [T])
theorem T_inj {a b : List Nat} (h : T a = T b) : a = b := by
  have := congrArg (fun s : Str => s.cps.toList) h
  simpa using this
theorem T_eq {z : Str} {l : List Nat} (h : z.cps.toList = l) : z = T l := by rw [← h, T_of]
theorem T_iff (a b : List Nat) : T a = T b ↔ a = b := ⟨T_inj, fun h => h ▸ rfl⟩
def sp : List Nat := [32]
def notL : List Nat := [110, 111, 116, 32]
def jL (w : Bool) : List Nat := if w then [111, 114] else [97, 110, 100]
def eL (r : Bool) : List Nat := if r then [114, 105, 115, 101] else [102, 97, 108, 108]
theorem jK_T (w : Bool) : jK w = T (jL w) := by cases w <;> decide +kernel
theorem eK_T (r : Bool) : eK r = T (eL r) := by cases r <;> decide +kernel
mutual
/-- the exact text -/
def Fm.txt : Fm → List Nat
  | .bit b => [if b then 49 else 48]
  | .name x => x.cps.toList
  | .edge r x => eL r ++ (32 :: x.cps.toList)
  | .not f => notL ++ f.txt
  | .joint w fs => 40 :: (joinT w fs ++ [41])
def joinT (w : Bool) : List Fm → List Nat
  | [] => []
  | f :: r => f.txt ++ moreT w r
def moreT (w : Bool) : List Fm → List Nat
  | [] => []
  | f :: r => (32 :: (jL w ++ [32])) ++ (f.txt ++ moreT w r)
end
theorem glue_more (w : Bool) (r : List Fm) : StrLaws.glueL (32 :: (jL w ++ [32])) (r.map fun f => T f.txt) = moreT w r := by
  induction r with
  | nil => rfl
  | cons f r ih => rw [List.map_cons, StrLaws.glueL, ih, moreT]; simp
theorem join_txt (w : Bool) {fs : List Fm} (ne : fs ≠ []) : Txt.join (T (32 :: (jL w ++ [32]))) (fs.map fun f => T f.txt) = T (joinT w fs) := by
  refine T_eq ?_
  cases fs with
  | nil => exact absurd rfl ne
  | cons f r =>
    show (Builtin.Str.glued _ _).cps.toList = _
    rw [List.map_cons, StrLaws.glued_list, StrLaws.glueT, T_list, T_list, glue_more, joinT]
theorem more_len (w : Bool) (r : List Fm) : (moreT w r).length = (r.map fun f => f.txt.length).sum + r.length * ((jL w).length + 2) := by
  induction r with
  | nil => simp [moreT]
  | cons f r ih => simp only [moreT, List.length_append, List.length_cons, List.length_nil, ih, List.map_cons, List.sum_cons, Nat.succ_mul]; omega
theorem sub_len {w : Bool} {fs : List Fm} {f : Fm} (h : f ∈ fs) : f.txt.length ≤ (joinT w fs).length := by
  have key : ∀ r : List Fm, f ∈ r → f.txt.length ≤ (moreT w r).length := by
    intro r
    induction r with
    | nil => intro h; simp at h
    | cons g r ih =>
      intro h
      simp only [moreT, List.length_append]
      rcases List.mem_cons.mp h with e | e
      · subst e; omega
      · have := ih e; omega
  cases fs with
  | nil => simp at h
  | cons g r =>
    simp only [joinT, List.length_append]
    rcases List.mem_cons.mp h with e | e
    · subst e; omega
    · have := key r e; omega
end K7

set_option Elab.async false
set_option linter.all false
set_option maxRecDepth 100000
set_option maxHeartbeats 4000000
namespace K7
open PySem PySem.Spec PyProof.Rows L2 GX NdefX
/-! ### the reader, without a heap -/
structure Br where
  parts : List Fm := []
  dep : Nat := 0
  joint : Option Bool := none
  nots : Nat := 0
structure Rs where
  top : Br := {}
  rest : List Br := []
  edge : Option Bool := none
  wants : Bool := true
def wrapN : Nat → Fm → Fm
  | 0, f => f
  | n + 1, f => wrapN n (.not f)
theorem wrapN_succ (n : Nat) (f : Fm) : wrapN (n + 1) f = .not (wrapN n f) := by
  induction n generalizing f with
  | zero => rfl
  | succ n ih => rw [wrapN, ih, wrapN]
def Br.take (b : Br) (f : Fm) (d : Nat) : Br := { b with parts := b.parts ++ [wrapN b.nots f], dep := max b.dep (d + b.nots), nots := 0 }
def Br.whole (b : Br) : Fm × Nat := match b.joint with
  | none => (b.parts.headD (.bit false), b.dep)
  | some w => (.joint w b.parts, b.dep + 1)
def Rs.took (s : Rs) (f : Fm) (d : Nat) : Rs := { s with top := s.top.take f d, wants := false }
def stepB (w : List Nat) (s : Rs) : Option Rs :=
  if w = [40] then some { s with top := {}, rest := s.top :: s.rest }
  else if w = [110, 111, 116] then some { s with top := { s.top with nots := s.top.nots + 1 } }
  else if w = eL true then some { s with edge := some true }
  else if w = eL false then some { s with edge := some false }
  else if w = [48] then some (s.took (.bit false) 1)
  else if w = [49] then some (s.took (.bit true) 1)
  else if nameB (T w) = true then some (s.took (.name (T w)) 1)
  else none
def stepA (w : List Nat) (s : Rs) : Option Rs := match s.rest with
  | [] => none
  | b :: r =>
    if w = [41] then some (({ s with top := b, rest := r } : Rs).took s.top.whole.1 s.top.whole.2)
    else if w = jL false ∧ s.top.joint ≠ some true then some { s with top := { s.top with joint := some false }, wants := true }
    else if w = jL true ∧ s.top.joint ≠ some false then some { s with top := { s.top with joint := some true }, wants := true }
    else none
def step (w : List Nat) (s : Rs) : Option Rs := match s.edge with
  | some r => if nameB (T w) = true then some { s.took (.edge r (T w)) 1 with edge := none } else none
  | none => if s.wants = true then stepB w s else stepA w s
def runs : List (List Nat) → Rs → Option Rs
  | [], s => some s
  | w :: r, s => (step w s).bind (runs r)
theorem runs_app (a b : List (List Nat)) (s : Rs) : runs (a ++ b) s = (runs a s).bind (runs b) := by
  induction a generalizing s with
  | nil => rfl
  | cons w r ih =>
    show (step w s).bind (runs (r ++ b)) = ((step w s).bind (runs r)).bind (runs b)
    cases step w s with
    | none => rfl
    | some s1 => exact ih s1
/-- a reader that reads on as it began -/
structure Ready (s : Rs) : Prop where
  wants : s.wants = true
  edge : s.edge = none
/-- these words tell this formula, so deep -/
def Rd (ws : List (List Nat)) (f : Fm) (d : Nat) : Prop := ∀ s, Ready s → runs ws s = some (s.took f d)
theorem rd_one {w : List Nat} {f : Fm} {d : Nat} (h : ∀ s : Rs, Ready s → stepB w s = some (s.took f d)) : Rd [w] f d := fun s r => by
  show (step w s).bind (runs []) = _
  unfold step
  rw [r.edge]
  show (if s.wants = true then stepB w s else stepA w s).bind (runs []) = _
  rw [if_pos r.wants, h s r]; rfl
theorem rd_bit (b : Bool) : Rd [[if b then 49 else 48]] (.bit b) 1 := by
  refine rd_one fun s r => ?_
  unfold stepB
  cases b <;> rfl
/-- a name is no other word -/
theorem name_no {w : List Nat} (h : nameB (T w) = true) : w ≠ [40] ∧ w ≠ [110, 111, 116] ∧ w ≠ eL true ∧ w ≠ eL false ∧ w ≠ [48] ∧ w ≠ [49] ∧ w ≠ [41] := by
  refine ⟨?_, ?_, ?_, ?_, ?_, ?_, ?_⟩ <;> (rintro rfl; revert h; decide +kernel)
theorem rd_name {w : List Nat} (h : nameB (T w) = true) : Rd [w] (.name (T w)) 1 := by
  obtain ⟨n1, n2, n3, n4, n5, n6, _⟩ := name_no h
  refine rd_one fun s r => ?_
  unfold stepB
  rw [if_neg n1, if_neg n2, if_neg n3, if_neg n4, if_neg n5, if_neg n6, if_pos h]
theorem rd_edge {w : List Nat} (r : Bool) (h : nameB (T w) = true) : Rd [eL r, w] (.edge r (T w)) 1 := fun s rd => by
  have e1 : step (eL r) s = some { s with edge := some r } := by
    unfold step
    rw [rd.edge]
    show (if s.wants = true then stepB (eL r) s else _) = _
    rw [if_pos rd.wants]
    unfold stepB
    cases r <;> rfl
  show (step (eL r) s).bind _ = _
  rw [e1]
  show (step w { s with edge := some r }).bind (runs []) = _
  show (if nameB (T w) = true then _ else _ : Option Rs).bind (runs []) = _
  rw [if_pos h]
  show some _ = some _
  congr 1
  unfold Rs.took
  simp only [rd.edge]
theorem rd_not {ws : List (List Nat)} {f : Fm} {d : Nat} (h : Rd ws f d) : Rd ([110, 111, 116] :: ws) (.not f) (d + 1) := fun s r => by
  obtain ⟨tp, rr, ee, ww⟩ := s
  obtain ⟨hw, he⟩ := r
  simp only at hw he
  subst hw he
  have e1 : step [110, 111, 116] ⟨tp, rr, none, true⟩ = some ⟨{ tp with nots := tp.nots + 1 }, rr, none, true⟩ := by
    show stepB [110, 111, 116] _ = _
    unfold stepB
    rw [if_neg (by decide), if_pos rfl]
  show (step [110, 111, 116] _).bind _ = _
  rw [e1]
  show runs ws ⟨{ tp with nots := tp.nots + 1 }, rr, none, true⟩ = _
  rw [h _ ⟨rfl, rfl⟩]
  unfold Rs.took Br.take
  simp only [wrapN]
  rw [show d + (tp.nots + 1) = d + 1 + tp.nots by omega]
/-- reading a bracket's inside and its end -/
def inside (s : Rs) : Rs := { s with top := {}, rest := s.top :: s.rest }
theorem step_lb {s : Rs} (r : Ready s) : step [40] s = some (inside s) := by
  obtain ⟨tp, rr, ee, ww⟩ := s
  obtain ⟨hw, he⟩ := r
  simp only at hw he
  subst hw he
  rfl
theorem step_rb {tp b : Br} {rr : List Br} : step [41] ⟨tp, b :: rr, none, false⟩ = some ((⟨b, rr, none, false⟩ : Rs).took tp.whole.1 tp.whole.2) := rfl
theorem rd_br {ws : List (List Nat)} {f : Fm} {d : Nat} (h : Rd ws f d) : Rd ([40] :: (ws ++ [[41]])) f d := fun s r => by
  show (step [40] s).bind _ = _
  rw [step_lb r]
  show runs (ws ++ [[41]]) (inside s) = _
  rw [runs_app, h (inside s) ⟨r.wants, r.edge⟩]
  obtain ⟨tp, rr, ee, ww⟩ := s
  obtain ⟨hw, he⟩ := r
  simp only at hw he
  subst hw he
  rw [Option.bind_some]
  show (step [41] ⟨({} : Br).take f d, tp :: rr, none, false⟩).bind (runs []) = _
  rw [step_rb, Option.bind_some]
  simp [runs, Br.whole, wrapN, Rs.took, Br.take]
/-- the parts of a joint and the words between them -/
def jointW (w : Bool) : List (List (List Nat)) → List (List Nat)
  | [] => []
  | p :: r => jL w :: (p ++ jointW w r)
theorem step_joint (w : Bool) {tp b : Br} {rr : List Br} (hj : tp.joint = none ∨ tp.joint = some w) : step (jL w) ⟨tp, b :: rr, none, false⟩ = some ⟨{ tp with joint := some w }, b :: rr, none, true⟩ := by
  have e0 : step (jL w) ⟨tp, b :: rr, none, false⟩ = stepA (jL w) ⟨tp, b :: rr, none, false⟩ := rfl
  rw [e0]
  unfold stepA
  cases w with
  | false =>
    show (if jL false = [41] then _ else if jL false = jL false ∧ tp.joint ≠ some true then _ else _) = _
    rw [if_neg (by decide), if_pos ⟨rfl, by rcases hj with z | z <;> simp [z]⟩]
  | true =>
    show (if jL true = [41] then _ else if jL true = jL false ∧ tp.joint ≠ some true then _ else if jL true = jL true ∧ tp.joint ≠ some false then _ else _) = _
    rw [if_neg (by decide), if_neg (fun z => absurd z.1 (by decide)), if_pos ⟨rfl, by rcases hj with z | z <;> simp [z]⟩]
theorem joint_more (w : Bool) : ∀ (ps : List (List (List Nat))) (qs : List (Fm × Nat)), Paired (fun p q => Rd p q.1 q.2) ps qs → ∀ (tp b : Br) (rr : List Br), tp.nots = 0 → (tp.joint = none ∨ tp.joint = some w) → (ps ≠ [] ∨ tp.joint = some w) →
    runs (jointW w ps) ⟨tp, b :: rr, none, false⟩ = some ⟨{ tp with parts := tp.parts ++ qs.map (·.1), dep := (qs.map (·.2)).foldl max tp.dep, joint := some w }, b :: rr, none, false⟩
  | [], _, .nil, tp, b, rr, hn, hj, hp => by
    have j : tp.joint = some w := hp.elim (fun z => absurd rfl z) id
    obtain ⟨pp, dd, jj, nn⟩ := tp
    simp only at j
    subst j
    simp [jointW, runs]
  | p :: ps, q :: qs, .cons h t, tp, b, rr, hn, hj, hp => by
    show (step (jL w) _).bind _ = _
    rw [step_joint w hj]
    show runs (p ++ jointW w ps) _ = _
    rw [runs_app, h _ ⟨rfl, rfl⟩]
    show runs (jointW w ps) ⟨({ tp with joint := some w } : Br).take q.1 q.2, b :: rr, none, false⟩ = _
    rw [joint_more w ps qs t _ b rr rfl (.inr rfl) (.inr rfl)]
    unfold Br.take
    simp [hn, wrapN]
theorem foldl_max (ds : List Nat) : ∀ a b, ds.foldl max (max a b) = max a (ds.foldl max b) := by
  induction ds with
  | nil => intro a b; rfl
  | cons d r ih => intro a b; simp only [List.foldl_cons]; rw [Nat.max_assoc, ih]
theorem rd_joint (w : Bool) {p : List (List Nat)} {ps : List (List (List Nat))} {f : Fm} {d : Nat} {qs : List (Fm × Nat)} (h : Rd p f d) (hps : Paired (fun p q => Rd p q.1 q.2) ps qs) (ne : ps ≠ []) :
    Rd ([40] :: (p ++ jointW w ps ++ [[41]])) (.joint w (f :: qs.map (·.1))) ((qs.map (·.2)).foldl max d + 1) := fun s r => by
  show (step [40] s).bind _ = _
  rw [step_lb r]
  show runs (p ++ jointW w ps ++ [[41]]) (inside s) = _
  rw [runs_app, runs_app, h (inside s) ⟨r.wants, r.edge⟩]
  obtain ⟨tp, rr, ee, ww⟩ := s
  obtain ⟨hw, he⟩ := r
  simp only at hw he
  subst hw he
  show ((runs (jointW w ps) ⟨({} : Br).take f d, tp :: rr, none, false⟩).bind _) = _
  rw [joint_more w ps qs hps _ tp rr rfl (.inl rfl) (.inl ne)]
  rw [Option.bind_some]
  unfold runs
  rw [step_rb, Option.bind_some]
  simp [runs, Br.whole, wrapN, Rs.took, Br.take]
/-- what stands at the end -/
def final (s : Rs) : Option (Fm × Nat) := if s.wants = true ∨ s.rest ≠ [] ∨ False then none else some s.top.whole
def parse (ws : List (List Nat)) : Option (Fm × Nat) := (runs ws {}).bind final
theorem parse_rd {ws : List (List Nat)} {f : Fm} {d : Nat} (h : Rd ws f d) : parse ws = some (f, d) := by
  unfold parse
  rw [h {} ⟨rfl, rfl⟩]
  show final _ = _
  unfold final
  rw [if_neg (by simp [Rs.took])]
  unfold Rs.took Br.take Br.whole
  simp [wrapN]
end K7

set_option Elab.async false
set_option linter.all false
set_option maxRecDepth 100000
set_option maxHeartbeats 4000000
namespace K7
open PySem PySem.Spec PyProof.Rows L2 GX NdefX
/-! ### a text's words -/
def emit (cur : List Nat) : List (List Nat) := if cur = [] then [] else [cur]
def wd : List Nat → List Nat → List (List Nat)
  | cur, [] => emit cur
  | cur, c :: r => if c = 32 then emit cur ++ wd [] r else if c = 40 ∨ c = 41 then emit cur ++ [c] :: wd [] r else wd (cur ++ [c]) r
def isD (c : Nat) : Bool := decide (c = 32 ∨ c = 40 ∨ c = 41)
/-- b begins with a sign that parts words, or is empty -/
def Beg (b : List Nat) : Prop := b = [] ∨ ∃ c r, b = c :: r ∧ isD c = true
def End (a : List Nat) : Prop := ∃ p c, a = p ++ [c] ∧ isD c = true
theorem wd_beg {b : List Nat} (h : Beg b) (cur : List Nat) : wd cur b = emit cur ++ wd [] b := by
  rcases h with rfl | ⟨c, r, rfl, hc⟩
  · simp [wd, emit]
  · have hc : c = 32 ∨ c = 40 ∨ c = 41 := of_decide_eq_true hc
    rcases hc with rfl | rfl | rfl <;> simp [wd, emit]
theorem wd_app {b : List Nat} (h : Beg b) : ∀ (a cur : List Nat), wd cur (a ++ b) = wd cur a ++ wd [] b := by
  intro a
  induction a with
  | nil => intro cur; exact wd_beg h cur
  | cons c r ih =>
    intro cur
    simp only [List.cons_append, wd]
    split
    · rw [ih, List.append_assoc]
    · split
      · rw [ih]; simp
      · exact ih _
theorem wd_end {a : List Nat} (h : End a) : ∀ (b cur : List Nat), wd cur (a ++ b) = wd cur a ++ wd [] b := by
  obtain ⟨p, c, rfl, hc⟩ := h
  intro b
  have hc : c = 32 ∨ c = 40 ∨ c = 41 := of_decide_eq_true hc
  induction p with
  | nil =>
    intro cur
    rcases hc with rfl | rfl | rfl <;> simp [wd, emit]
  | cons d r ih =>
    intro cur
    simp only [List.cons_append, wd]
    split
    · rw [ih, List.append_assoc]
    · split
      · rw [ih]; simp
      · exact ih _
theorem wd_word : ∀ (w cur : List Nat), (∀ c ∈ w, isD c = false) → wd cur w = emit (cur ++ w)
  | [], cur, _ => by simp [wd]
  | c :: r, cur, h => by
    have hc : ¬ (c = 32 ∨ c = 40 ∨ c = 41) := of_decide_eq_false (h c List.mem_cons_self)
    rw [wd, if_neg (fun e => hc (.inl e)), if_neg (fun e => hc (.inr e)), wd_word r _ fun d m => h d (List.mem_cons_of_mem _ m)]
    simp
theorem wd_one {w : List Nat} (ne : w ≠ []) (h : ∀ c ∈ w, isD c = false) : wd [] w = [w] := by
  rw [wd_word w [] h]
  simp [emit, ne]
theorem wd_sp (n : Nat) (b : List Nat) : wd [] (List.replicate n 32 ++ b) = wd [] b := by
  induction n with
  | zero => rfl
  | succ n ih => rw [List.replicate_succ, List.cons_append, wd, if_pos rfl, ih]; rfl
theorem beg_sp {b : List Nat} (n : Nat) (h : 1 ≤ n ∨ Beg b) : Beg (List.replicate n 32 ++ b) := by
  cases n with
  | zero => rcases h with h | h
            · omega
            · exact h
  | succ n => exact .inr ⟨32, _, by rw [List.replicate_succ]; rfl, rfl⟩
/-! ### by replace and split -/
def splitL : List Nat → List Nat → List (List Nat)
  | cur, [] => [cur]
  | cur, c :: r => if c = 32 then cur :: splitL [] r else splitL (cur ++ [c]) r
theorem split_free : ∀ (p cur q : List Nat), 32 ∉ p → splitL cur (p ++ 32 :: q) = (cur ++ p) :: splitL [] q
  | [], cur, q, _ => by simp [splitL]
  | c :: r, cur, q, h => by
    have hc : c ≠ 32 := fun e => h (by rw [e]; exact List.mem_cons_self)
    rw [List.cons_append, splitL, if_neg hc, split_free r _ q fun m => h (List.mem_cons_of_mem _ m)]
    simp
theorem split_last : ∀ (p cur : List Nat), 32 ∉ p → splitL cur p = [cur ++ p]
  | [], cur, _ => by simp [splitL]
  | c :: r, cur, h => by
    have hc : c ≠ 32 := fun e => h (by rw [e]; exact List.mem_cons_self)
    rw [splitL, if_neg hc, split_last r _ fun m => h (List.mem_cons_of_mem _ m)]
    simp
theorem split_join : ∀ (ps : List Str), ps ≠ [] → (∀ p ∈ ps, 32 ∉ p.cps.toList) → splitL [] (Str.join ⟨#[32]⟩ ps).cps.toList = ps.map fun p => p.cps.toList
  | [], ne, _ => absurd rfl ne
  | [p], _, h => by
    show splitL [] p.cps.toList = _
    rw [split_last _ _ (h p List.mem_cons_self)]; rfl
  | p :: q :: r, _, h => by
    have e : (Str.join ⟨#[32]⟩ (p :: q :: r)).cps.toList = p.cps.toList ++ 32 :: (Str.join ⟨#[32]⟩ (q :: r)).cps.toList := by
      show (p ++ ⟨#[32]⟩ ++ Str.join ⟨#[32]⟩ (q :: r) : Str).cps.toList = _
      rw [Str.cps_append, Str.cps_append, Array.toList_append, Array.toList_append]
      simp
    rw [e, split_free _ _ _ (h p List.mem_cons_self), split_join (q :: r) (by simp) fun x m => h x (List.mem_cons_of_mem _ m)]
    rfl
theorem split_txt (x : Str) : (Txt.split x ⟨#[32]⟩).map (fun p => p.cps.toList) = splitL [] x.cps.toList := by
  have hj := StrLaws.join_split x ⟨#[32]⟩
  have hf := StrLaws.split_free x 32
  have ne : Txt.split x ⟨#[32]⟩ ≠ [] := fun e => by have := PyProof.Rows.split_pos x ⟨#[32]⟩; rw [e] at this; simp at this
  rw [← split_join _ ne fun p m => hf p m, hj]
theorem repl_one (c : Nat) (z : List Nat) : ∀ l : List Nat, StrLaws.replL [c] z l = l.flatMap fun x => if x = c then z else [x]
  | [] => StrLaws.replL_nil
  | x :: r => by
    rw [List.flatMap_cons]
    by_cases e : x = c
    · subst e
      rw [StrLaws.replL_hit (by simp) (by simp), if_pos rfl, ← repl_one x z r]
      rfl
    · rw [StrLaws.replL_miss (fun z => e (by simpa using z)), if_neg e, ← repl_one c z r]
      rfl
/-- a bracket stands for itself between blanks -/
def gap (c : Nat) : List Nat := if c = 40 then [32, 40, 32] else if c = 41 then [32, 41, 32] else [c]
theorem two_repl (l : List Nat) : StrLaws.replL [41] [32, 41, 32] (StrLaws.replL [40] [32, 40, 32] l) = l.flatMap gap := by
  rw [repl_one, repl_one, List.flatMap_assoc]
  refine congrArg (fun f => l.flatMap f) (funext fun c => ?_)
  unfold gap
  by_cases e : c = 40
  · subst e; rfl
  · rw [if_neg e, if_neg e]; simp
theorem words_split : ∀ (l cur : List Nat), (splitL cur (l.flatMap gap)).filter (fun w => decide (w ≠ [])) = wd cur l
  | [], cur => by
    show (splitL cur []).filter _ = emit cur
    unfold splitL emit
    by_cases e : cur = [] <;> simp [e]
  | c :: r, cur => by
    have fe : ∀ (q : List (List Nat)), (cur :: q).filter (fun w => decide (w ≠ [])) = emit cur ++ q.filter (fun w => decide (w ≠ [])) := fun q => by
      unfold emit
      by_cases e : cur = [] <;> simp [e]
    rw [List.flatMap_cons]
    unfold gap
    by_cases e1 : c = 40
    · subst e1
      show (splitL cur (32 :: 40 :: 32 :: r.flatMap gap)).filter _ = wd cur (40 :: r)
      rw [splitL, if_pos rfl, splitL, if_neg (by decide), List.nil_append, splitL, if_pos rfl, fe, List.filter_cons_of_pos (by simp), words_split r [], wd, if_neg (by decide), if_pos (.inl rfl)]
    · rw [if_neg e1]
      by_cases e2 : c = 41
      · subst e2
        show (splitL cur (32 :: 41 :: 32 :: r.flatMap gap)).filter _ = wd cur (41 :: r)
        rw [splitL, if_pos rfl, splitL, if_neg (by decide), List.nil_append, splitL, if_pos rfl, fe, List.filter_cons_of_pos (by simp), words_split r [], wd, if_neg (by decide), if_pos (.inr rfl)]
      · rw [if_neg e2]
        show (splitL cur (c :: r.flatMap gap)).filter _ = wd cur (c :: r)
        rw [splitL, wd]
        by_cases e3 : c = 32
        · subst e3
          rw [if_pos rfl, if_pos rfl, fe, words_split r []]
        · rw [if_neg e3, if_neg e3, if_neg (fun z => z.elim e1 e2), words_split r _]
/-! ### the exact text is read back -/
theorem name_free {x : Str} (h : nameB x = true) : x.cps.toList ≠ [] ∧ ∀ c ∈ x.cps.toList, isD c = false := by
  unfold nameB at h
  simp only [Bool.and_eq_true, decide_eq_true_eq, List.all_eq_true] at h
  obtain ⟨⟨⟨h1, _⟩, _⟩, _, h2⟩ := h
  refine ⟨fun e => ?_, fun c m => ?_⟩
  · have : x.cps.toList.length = 0 := by rw [e]; rfl
    rw [Array.length_toList] at this; omega
  · have := h2 c m
    refine decide_eq_false fun z => ?_
    rcases z with rfl | rfl | rfl <;> exact absurd this (by decide +kernel)
theorem wd_name {x : Str} (h : nameB x = true) : wd [] x.cps.toList = [x.cps.toList] := wd_one (name_free h).1 (name_free h).2
theorem beg_more (w : Bool) (r : List Fm) : Beg (moreT w r) := by
  cases r with
  | nil => exact .inl rfl
  | cons f r => exact .inr ⟨32, _, rfl, rfl⟩
theorem wd_kw {k : List Nat} (ne : k ≠ []) (h : ∀ c ∈ k, isD c = false) (b : List Nat) : wd [] (k ++ 32 :: b) = k :: wd [] b := by
  rw [wd_app (.inr ⟨32, b, rfl, rfl⟩), wd_one ne h, wd, if_pos rfl]; rfl
theorem jL_free (w : Bool) : jL w ≠ [] ∧ ∀ c ∈ jL w, isD c = false := by cases w <;> decide
theorem eL_free (w : Bool) : eL w ≠ [] ∧ ∀ c ∈ eL w, isD c = false := by cases w <;> decide
theorem wd_more (w : Bool) (f : Fm) (r : List Fm) : wd [] (moreT w (f :: r)) = jL w :: (wd [] f.txt ++ wd [] (moreT w r)) := by
  rw [moreT, List.cons_append, wd, if_pos rfl, List.append_assoc]
  show emit [] ++ wd [] (jL w ++ 32 :: (f.txt ++ moreT w r)) = _
  rw [wd_kw (jL_free w).1 (jL_free w).2, wd_app (beg_more w r)]; rfl
theorem wd_mores (w : Bool) (r : List Fm) : wd [] (moreT w r) = jointW w (r.map fun f => wd [] f.txt) := by
  induction r with
  | nil => simp [moreT, wd, emit, jointW]
  | cons f r ih => rw [wd_more, ih, List.map_cons, jointW]
theorem max_dep (r : List Fm) : ∀ d : Nat, (r.map Fm.dep).foldl max d = max d (depL r) := by
  induction r with
  | nil => intro d; simp [depL]
  | cons f r ih => intro d; rw [List.map_cons, List.foldl_cons, ih, depL, Nat.max_assoc]
mutual
theorem txt_rd : ∀ f : Fm, f.ok = true → Rd (wd [] f.txt) f f.dep
  | .bit b, _ => by
    have e : wd [] (Fm.bit b).txt = [[if b then 49 else 48]] := by cases b <;> rfl
    rw [e]
    exact rd_bit b
  | .name x, h => by
    have h : nameB x = true := h
    simp only [Fm.txt]
    rw [wd_name h]
    have := rd_name (w := x.cps.toList) (by rw [T_of]; exact h)
    rw [T_of] at this
    exact this
  | .edge r x, h => by
    have h : nameB x = true := h
    simp only [Fm.txt]
    rw [wd_kw (eL_free r).1 (eL_free r).2, wd_name h]
    have := rd_edge (w := x.cps.toList) r (by rw [T_of]; exact h)
    rw [T_of] at this
    exact this
  | .not f, h => by
    have h : f.ok = true := h
    simp only [Fm.txt, Fm.dep]
    rw [show notL ++ f.txt = [110, 111, 116] ++ 32 :: f.txt from rfl, wd_kw (by decide) (by decide)]
    exact rd_not (txt_rd f h)
  | .joint w fs, h => by
    have h2 : 2 ≤ fs.length ∧ okL fs = true := by simpa [Fm.ok] using h
    match fs, h2 with
    | f :: r, h2 =>
      have ok2 : f.ok = true ∧ okL r = true := by simpa [okL] using h2.2
      have pr := txts_rd r ok2.2
      simp only [Fm.txt, Fm.dep, joinT]
      rw [wd, if_neg (by decide), if_pos (.inl rfl), wd_app (.inr ⟨41, [], rfl, rfl⟩), wd_app (beg_more w r), wd_mores]
      have e : (r.map fun f => (f, f.dep)).map (·.1) = r := by rw [List.map_map]; exact List.map_id r
      have e2 : (r.map fun f => (f, f.dep)).map (·.2) = r.map Fm.dep := by rw [List.map_map]; rfl
      have := rd_joint w (txt_rd f ok2.1) pr (by
        intro z
        have : r = [] := by simpa using z
        subst this
        simp at h2)
      rw [e, e2, max_dep] at this
      exact this
theorem txts_rd : ∀ r : List Fm, okL r = true → Paired (fun p (q : Fm × Nat) => Rd p q.1 q.2) (r.map fun f => wd [] f.txt) (r.map fun f => (f, f.dep))
  | [], _ => .nil
  | f :: r, h => by
    have h2 : f.ok = true ∧ okL r = true := by simpa [okL] using h
    exact .cons (txt_rd f h2.1) (txts_rd r h2.2)
end
end K7

set_option Elab.async false
set_option linter.all false
set_option maxRecDepth 100000
set_option maxHeartbeats 4000000
/-! zip of a tuple and a list, both staying as they are -/
namespace GX
open PySem PySem.Spec PyProof.Rows L2
def ItzM (K : PySem.W.Frag) (a b : Addr) (xs ys : List V) : It :=
  ⟨fun i H => SqT K H a xs ∧ SqL K H b ys ∧ i < xs.length ∧ i < ys.length,
    fun i H v H' => ∃ T x y, v = .ref T ∧ H T = none ∧ H' = upd H T (.tup [x, y]) ∧ xs[i]? = some x ∧ ys[i]? = some y,
    fun i H => SqT K H a xs ∧ SqL K H b ys ∧ i ≤ xs.length ∧ i ≤ ys.length ∧ (i = xs.length ∨ i = ys.length)⟩
theorem mem4 {z TI TO i1 i2 a b : Nat} {c : Nat} (h : c = z ∨ c = TO ∨ c = i1 ∨ c = i2) : c ∈ [z, TI, TO, i1, i2] := by
  rcases h with rfl | rfl | rfl | rfl <;> simp
theorem turn_zipM {P : Program} {w : World} {K : PySem.W.Frag} {elts : List Expr} {kk : Nat} {tpos : Pos} {a b z TI TO i1 i2 : Addr} {xs ys : List V} (D : ZipSep2 z TI TO i1 i2 [i1, a] [i2, b]) (na : a ≠ i1) (nb : b ≠ i2) :
    Turn P w K (.Tuple elts kk tpos) (ItzM K a b xs ys) [z, TI, TO, i1, i2] z (fun i h => IsZip h z TI TO .none ∧ IsTupOf2 h TI (.ref i1) (.ref i2) ∧ (∃ x y, IsTupOf2 h TO x y) ∧ h.IsTupleIter i1 a i ∧ h.IsListIter i2 b i) where
  mem := by simp
  obj := fun i h st c hc => by
    obtain ⟨hz, hTI, ⟨x, y, hTO⟩, ⟨o1, e1, _, d1⟩, ⟨o2, e2, _, d2⟩⟩ := st
    have e' : c = z ∨ c = TI ∨ c = TO ∨ c = i1 ∨ c = i2 := by simpa using hc
    rcases e' with q | q | q | q | q
    · rw [q]; exact ⟨_, hz, fun v q => nomatch q⟩
    · rw [q]; exact ⟨_, hTI, fun v q => nomatch q⟩
    · rw [q]; exact ⟨_, hTO, fun v q => nomatch q⟩
    · rw [q]; exact ⟨o1, e1, fun v q => by rw [d1] at q; cases q⟩
    · rw [q]; exact ⟨o2, e2, fun v q => by rw [d2] at q; cases q⟩
  keep := fun i h h' st k => by
    obtain ⟨hz, hTI, ⟨x, y, hTO⟩, h1, h2⟩ := st
    exact ⟨k z (by simp) _ hz, k TI (by simp) _ hTI, ⟨x, y, k TO (by simp) _ hTO⟩, h1.at fun o q => k i1 (by simp) o q, h2.at fun o q => k i2 (by simp) o q⟩
  item := by
    intro X hP hw hK hc i pins s σ H E I hf st hg
    subst hP hw hK
    obtain ⟨hz, hTI, ⟨x0, y0, hTO⟩, h1, h2⟩ := st
    obtain ⟨hqx, hqy, lx, ly⟩ := hg
    obtain ⟨its, rv, p, _⟩ := I.tuple hqx
    obtain ⟨its2, rv2, p2, _⟩ := I.list hqy
    have hx : xs[i]? = some xs[i] := List.getElem?_eq_getElem lx
    have hy : ys[i]? = some ys[i] := List.getElem?_eq_getElem ly
    obtain ⟨u, hu, ru⟩ := rv.get hx
    obtain ⟨u2, hu2, ru2⟩ := rv2.get hy
    have hzl : z < s.heap.objs.size := Heap.lt_size hz
    have l1 := rv.length
    have l2 := rv2.length
    refine wpAny_pyNext_zipD2_item D (Draws.tuple (A := X.A.in1) (I.ok.hd hc) i1 a na its.toArray) (Draws.list (A := X.A.in1) (I.ok.hd hc) i2 b nb its2.toArray) hz hTI hTO ⟨h1, show s.heap.IsTuple a its.toArray from p⟩ ⟨h2, p2.isList⟩ (by simp; omega) (by simp; omega) fun v1 v2 h' tk e1 e2 z' TO' s1' s2' hT hsz hk => ?_
    have e1 : its[i]? = some v1 := by simpa using e1
    have e2 : its2[i]? = some v2 := by simpa using e2
    rw [hu] at e1
    rw [hu2] at e2
    cases e1
    cases e2
    refine ⟨_, rfl, wpAny_letOwnedTupleGo_zip (s := { s with heap := h', toks := tk }) z' fun h'' z'' sb => ?_⟩
    have hT2 : h''.get? s.heap.objs.size = some { cls := .type "tuple", data := .seq #[u, u2] } := (sb.2 _ (Nat.ne_of_gt hzl)).trans hT
    have new : ObjOk X.prog X.w (upd H s.heap.objs.size (.tup [xs[i], ys[i]])) h'' s.heap.objs.size (.tup [xs[i], ys[i]]) :=
      ⟨by show 2 ≤ sizeLine; decide, [u, u2], .cons ru (.cons ru2 .nil), ⟨_, hT2, rfl, _, rfl⟩⟩
    have I1 : Inv X pins σ (upd H s.heap.objs.size (.tup [xs[i], ys[i]])) { s with heap := h'', toks := tk } :=
      I.turnedNew (t' := tk) (ch := [z, TI, TO, i1, i2]) (fun c o hb q => (sb.2 c (fun q' => hb (by simp [q']))).trans (hk c o (fun q' => hb (by simp [q'])) (fun q' => hb (by simp [q'])) (fun q' => hb (by simp [q'])) (fun q' => hb (by simp [q'])) q)) hf (Nat.le_refl _) new
    refine ⟨.ref s.heap.objs.size, _, I1, rfl, ⟨_, xs[i], ys[i], rfl, I.hok.fresh (Nat.le_refl _), rfl, hx, hy⟩, ⟨z'', ?_, ⟨u, u2, ?_⟩, ?_, ?_⟩, fun c hcm => ?_⟩
    · exact (sb.2 _ D.TIz).trans (hk _ _ D.TIz D.TITO D.TIi1 D.TIi2 hTI)
    · exact (sb.2 _ D.TOz).trans TO'
    · exact s1'.1.at fun o q => (sb.2 _ D.zi1.symm).trans q
    · exact s2'.1.at fun o q => (sb.2 _ D.zi2.symm).trans q
    · have hlt : c < s.heap.objs.size := by
        have e' : c = z ∨ c = TI ∨ c = TO ∨ c = i1 ∨ c = i2 := by simpa using hcm
        rcases e' with q | q | q | q | q
        · rw [q]; exact hzl
        · rw [q]; exact Heap.lt_size hTI
        · rw [q]; exact Heap.lt_size hTO
        · rw [q]; obtain ⟨_, e1, _⟩ := h1; exact Heap.lt_size e1
        · rw [q]; obtain ⟨_, e2, _⟩ := h2; exact Heap.lt_size e2
      rw [upd_ne (Nat.ne_of_lt hlt)]
      exact (hf c hcm).1
  done := by
    intro X hP hw hK hc i pins s σ H E I hf st hg
    subst hP hw hK
    obtain ⟨hz, hTI, ⟨x0, y0, hTO⟩, h1, h2⟩ := st
    obtain ⟨hqx, hqy, lx, ly, hend⟩ := hg
    obtain ⟨its, rv, p, _⟩ := I.tuple hqx
    obtain ⟨its2, rv2, p2, _⟩ := I.list hqy
    have l1 := rv.length
    have l2 := rv2.length
    refine wpAny_pyNext_zipD2_end D (Draws.tuple (A := X.A.in1) (I.ok.hd hc) i1 a na its.toArray) (Draws.list (A := X.A.in1) (I.ok.hd hc) i2 b nb its2.toArray) hz hTI hTO ⟨h1, show s.heap.IsTuple a its.toArray from p⟩ ⟨h2, p2.isList⟩ (by simp; omega) (by simp; omega) (by simp; omega) fun h' tk hk => ⟨rfl, I.turnedL (t' := tk) (ch := [z, TI, TO, i1, i2]) (fun c o hb q =>
      hk c o (fun q' => hb (by simp [q'])) (fun q' => hb (by simp [q'])) (fun q' => hb (by simp [q'])) (fun q' => hb (by simp [q'])) q) hf⟩
  self := fun A i s Q E st h => wpAny_pyIter_zip st.1 h
def iZipM (K : PySem.W.Frag) (ta : TA) : TI := fun σ H R => ta σ H fun vs H1 => ∃ a b xs ys, vs = [.ref a, .ref b] ∧ SqT K H1 a xs ∧ SqL K H1 b ys ∧ R (ItzM K a b xs ys) H1
theorem pi_zipM {X : Cx} {e e2 : Expr} {ta : TA} {p pos tpos : Pos} {elts : List Expr} {kk : Nat} (hg : Gl X "zip") (hm : X.mg "zip" = none) (ha : PA X [e, e2] ta)
    (hs : starEach [e, e2] X.env = (false, eval e X.env) :: starEach [e2] X.env := by rfl) (hpl : (backTo pos (starEach [e2] X.env)).any (·.1) = false := by rfl) :
    PI X (.Tuple elts kk tpos) (.Call (.Name "zip" p) [e, e2] [] pos) (iZipM X.K ta) := by
  refine ⟨fun pins s σ H R I h => ?_⟩
  refine Call_ (ld_blt I hg hm PyProof.Rows.boot_zip (PyProof.Rows.callWith_type1 (thn (ha.run pos pins s σ H _ I h) fun us s1 ⟨vs, H1, I1, r1, q1⟩ => ?_) hs hpl))
  obtain ⟨a, b, xs, ys, ex, hqx, hqy, q⟩ := q1
  subst ex
  cases r1 with
  | cons r rr =>
    cases rr with
    | cons r' rr =>
      cases rr
      cases r
      cases r'
      have fresh5 : ∀ c, c ∈ [s1.heap.objs.size + 4, s1.heap.objs.size + 2, s1.heap.objs.size + 3, s1.heap.objs.size, s1.heap.objs.size + 1] → FpOk X pins H1 c := fun c hcm => by
        have e' : c = s1.heap.objs.size + 4 ∨ c = s1.heap.objs.size + 2 ∨ c = s1.heap.objs.size + 3 ∨ c = s1.heap.objs.size ∨ c = s1.heap.objs.size + 1 := by simpa using hcm
        have hle : s1.heap.objs.size ≤ c := by
          rcases e' with z | z | z | z | z
          · rw [z]; exact Nat.le_add_right _ _
          · rw [z]; exact Nat.le_add_right _ _
          · rw [z]; exact Nat.le_add_right _ _
          · rw [z]; exact Nat.le_refl _
          · rw [z]; exact Nat.le_add_right _ _
        exact I1.fpOk hle (I1.hok.fresh hle)
      obtain ⟨its, rv, p1, _⟩ := I1.tuple hqx
      obtain ⟨its2, rv2, p2, _⟩ := I1.list hqy
      obtain ⟨o1, ho1, _⟩ := id p1
      have la : a < s1.heap.objs.size := Heap.lt_size ho1
      have lb : b < s1.heap.objs.size := p2.lt
      refine zip_begins2 (begins_tuple a its.toArray) (begins_list b its2.toArray) (show s1.heap.IsTuple a its.toArray from p1) p2.isList fun h' hz hTI hTO h1 h2 hsz hk => wpAny_pyIter_zip hz ?_
      have I2 : Inv X pins σ H1 { s1 with heap := h' } := I1.kept (t' := s1.toks) hk
      exact ⟨s1.heap.objs.size + 4, [s1.heap.objs.size + 4, s1.heap.objs.size + 2, s1.heap.objs.size + 3, s1.heap.objs.size, s1.heap.objs.size + 1], _, _, H1, rfl, I2, turn_zipM (zsep s1.heap.objs.size a b la lb) (Nat.ne_of_lt la) (Nat.ne_of_lt (Nat.lt_succ_of_lt lb)), ⟨hz, hTI, ⟨_, _, hTO⟩, ⟨_, h1, rfl, rfl⟩, ⟨_, h2, rfl, rfl⟩⟩, fresh5, q⟩
/-- a dict comprehension over it -/
theorem dc_zipM {K : PySem.W.Frag} {a b : Addr} {xs ys : List V} {g : TG} {tt : TT} {tk tv : TE} {vs : List Nat} {σ : L2.St} {H1 : Hp} {D : Addr} {Qd : Hp → Prop} (hl2 : xs.length = ys.length) (Pv : Nat → Hp → Prop) (h0 : Pv 0 (upd H1 D (.dK []))) (hl : ∀ i H, i ≤ xs.length → Pv i H → SqT K H a xs ∧ SqL K H b ys)
    (hs : ∀ i x y T H, xs[i]? = some x → ys[i]? = some y → Pv i H → H T = none → g (.ref T) (wipe σ vs) (upd H T (.tup [x, y])) fun σ2 H2 => wipe σ2 vs = wipe σ vs ∧ tt σ2 H2 fun b H3 =>
      if b = true then tk σ2 H3 fun y H4 => tv σ2 H4 fun z H5 => ∃ kvs k, y = kV k ∧ H5 D = some (.dK kvs) ∧ kvs.length < sizeLine ∧ Pv (i + 1) (upd H5 D (.dK (putK kvs k z))) else Pv (i + 1) H3) (hd : ∀ H, Pv xs.length H → Qd H) :
    ∃ W : Nat → Nat → Hp → Prop, (∃ m, W 0 m (upd H1 D (.dK []))) ∧ ∀ i m H, W i m H →
      ((ItzM K a b xs ys).stop i H ∧ Qd H) ∨ ((ItzM K a b xs ys).go i H ∧ ∃ Nx : Hp → Prop, (∀ H', Nx H' → ∃ m', m' < m ∧ W (i + 1) m' H') ∧ ∀ x H', (ItzM K a b xs ys).yld i H x H' → g x (wipe σ vs) H' fun σ2 H2 => wipe σ2 vs = wipe σ vs ∧ tt σ2 H2 fun b H3 =>
        if b = true then tk σ2 H3 fun y H4 => tv σ2 H4 fun z H5 => ∃ kvs k, y = kV k ∧ H5 D = some (.dK kvs) ∧ kvs.length < sizeLine ∧ Nx (upd H5 D (.dK (putK kvs k z))) else Nx H3) := by
  refine ⟨fun i m H => m = xs.length - i ∧ i ≤ xs.length ∧ Pv i H, ⟨xs.length, by simp, Nat.zero_le _, h0⟩, ?_⟩
  rintro i m H ⟨rfl, hi, p⟩
  obtain ⟨q1, q2⟩ := hl i H hi p
  by_cases hlt : i < xs.length
  · refine .inr ⟨⟨q1, q2, hlt, by omega⟩, Pv (i + 1), fun H' p' => ⟨xs.length - (i + 1), by omega, rfl, hlt, p'⟩, fun x H' y => ?_⟩
    obtain ⟨T, x', y', rfl, hT, rfl, f1, f2⟩ := y
    exact hs i x' y' T H f1 f2 p hT
  · have e : i = xs.length := by omega
    subst e
    exact .inl ⟨⟨q1, q2, Nat.le_refl _, by omega, .inl rfl⟩, hd H p⟩
end GX

set_option Elab.async false
set_option linter.all false
set_option maxRecDepth 100000
set_option maxHeartbeats 4000000
/-! dict(zip(a list, a tuple)) -/
namespace PySem
section
variable {prog : Program} {w : World} {A : Around} {E : Value → Shared → Prop} {s : Shared} {z TI TO i1 i2 : Addr} {fp1 fp2 : List Addr} {n1 n2 i : Nat} {P1 P2 : Nat → Value → Prop} {St1 St2 : Nat → Heap → Prop} {a1 a2 : Value}
theorem pyNext_zip_held {T : Addr} {f : Bool} {oT : Obj} {Q : Option Value → Shared → Prop} (S : ZipSep2 z TI TO i1 i2 fp1 fp2) (D1 : Draws prog w A.in1 i1 fp1 n1 P1 St1) (D2 : Draws prog w A.in1 i2 fp2 n2 P2 St2)
    (hz : IsZipHeld s.heap z TI TO T f) (hT : s.heap.get? T = some oT) (hTI : IsTupOf2 s.heap TI (.ref i1) (.ref i2)) (st1 : St1 i s.heap) (st2 : St2 i s.heap) (hlt1 : i < n1) (hlt2 : i < n2)
    (hQ : ∀ x1 x2 h' tk, P1 i x1 → P2 i x2 → IsZipHeld h' z TI TO T true → St1 (i + 1) h' → St2 (i + 1) h' → IsTupOf2 h' s.heap.objs.size x1 x2 → h'.objs.size = s.heap.objs.size + 1 →
      (∀ c o, c ≠ z → c ≠ i1 → c ≠ i2 → s.heap.get? c = some o → h'.get? c = some o) → Q (some (.ref s.heap.objs.size)) { s with heap := h', toks := tk }) :
    wpAny (model prog w) A (pyNext (.ref z)) Q E s := by
  have hT' : s.TypeIs (.ref z) "zip" := ⟨_, hz, rfl⟩
  unfold pyNext
  exact wpAny_bind (wpAny_attempt (wpAny_callSpecial?_slot (name := Str.ofString "__next__") hT' F.slot_zip_next
    (wpAny_call_entry F.slot_zip_next hT' F.entry_zip_next
      (gz_zip_held S D1 D2 hz hT hTI st1 st2 hlt1 hlt2 fun x1 x2 h' tk y1 y2 b1 d1 d2 b5 b6 b7 => wpAny_pure (hQ x1 x2 h' tk y1 y2 b1 d1 d2 b5 b6 b7)) (F.args_zip_next_1 _))))
theorem pyNext_zip_held_end {T : Addr} {f : Bool} {oT : Obj} {Q : Option Value → Shared → Prop} (S : ZipSep2 z TI TO i1 i2 fp1 fp2) (D1 : Draws prog w A.in1 i1 fp1 n1 P1 St1) (D2 : Draws prog w A.in1 i2 fp2 n2 P2 St2)
    (hz : IsZipHeld s.heap z TI TO T f) (hT : s.heap.get? T = some oT) (hTI : IsTupOf2 s.heap TI (.ref i1) (.ref i2)) (st1 : St1 i s.heap) (st2 : St2 i s.heap) (h1 : i = n1)
    (hQ : ∀ h' tk, (∀ c o, c ≠ z → c ≠ i1 → c ≠ i2 → s.heap.get? c = some o → h'.get? c = some o) → Q none { s with heap := h', toks := tk }) : wpAny (model prog w) A (pyNext (.ref z)) Q E s := by
  have hT' : s.TypeIs (.ref z) "zip" := ⟨_, hz, rfl⟩
  unfold pyNext
  refine wpAny_bind (wpAny_attempt (wpAny_callSpecial?_slot (name := Str.ofString "__next__") hT' F.slot_zip_next
    (wpAny_call_entry F.slot_zip_next hT' F.entry_zip_next (gz_zip_held_end S D1 D2 hz hT hTI st1 st2 h1 fun h' tk e hk he => ?_) (F.args_zip_next_1 _))))
  obtain ⟨o, ho, hc⟩ := he
  refine wpAny_bind (wpAny_isInstance (T := "StopIteration") (b := true) ⟨o, ho, hc⟩ isSubtype_stop ?_)
  exact wpAny_pure (hQ _ _ hk)
end
theorem PairArg.zipLT {prog : Program} {w : World} (z TI TO i1 i2 l1 l2 : Addr) (D : ZipSep2 z TI TO i1 i2 [i1, l1] [i2, l2]) (n1 : l1 ≠ i1) (n2 : l2 ≠ i2) (xs ys : Array Value) (hn : ys.size = xs.size) :
    PairArg prog w "zip" z [z, TI, TO, i1, i2, l1, l2] [z, TO, i1, i2] xs.size (fun i k v => xs[i]? = some k ∧ ys[i]? = some v)
      (fun h => IsZip h z TI TO .none ∧ IsTupOf2 h TI (.ref i1) (.ref i2) ∧ (∃ a b, IsTupOf2 h TO a b) ∧ h.IsListIter i1 l1 0 ∧ h.IsTupleIter i2 l2 0 ∧ h.IsList l1 xs ∧ h.IsTuple l2 ys) where
  type := fun s ok => ⟨_, ok.1, rfl⟩
  notDict := by decide
  keep := fun h h' ok hk => by
    obtain ⟨hz, hTI, ⟨a, b, hTO⟩, h1, h2, hl1, hl2⟩ := ok
    exact ⟨hk _ _ hz, hk _ _ hTI, ⟨a, b, hk _ _ hTO⟩, h1.at fun o e => hk _ o e, h2.at fun o e => hk _ o e, hl1.at fun o e => hk _ o e, hl2.at fun o e => hk _ o e⟩
  there := fun h ok b hb => by
    obtain ⟨hz, hTI, ⟨a, c, hTO⟩, ⟨o1, h1, _⟩, ⟨o2, h2, _⟩, ⟨o3, hl1, _⟩, ⟨o4, hl2, _⟩⟩ := ok
    simp only [List.mem_cons, List.not_mem_nil, or_false] at hb
    rcases hb with rfl | rfl | rfl | rfl | rfl | rfl | rfl
    all_goals first | exact ⟨_, hz⟩ | exact ⟨_, hTI⟩ | exact ⟨_, hTO⟩ | exact ⟨_, h1⟩ | exact ⟨_, h2⟩ | exact ⟨_, hl1⟩ | exact ⟨_, hl2⟩
  sub := fun b hb => by simp at hb ⊢; rcases hb with rfl | rfl | rfl | rfl <;> simp
  noKeys := fun A s Q E hA ok h => getAttrOr_miss_zip ok.1 rfl rfl rfl zip_no_keys (by decide +kernel) hA h
  iter := fun A s d Q E hA ok hd hdf h => by
    obtain ⟨hz, hTI, ⟨a, b, hTO⟩, h1, h2, hl1, hl2⟩ := ok
    simp only [List.mem_cons, List.not_mem_nil, or_false, not_or] at hdf
    obtain ⟨dz, dTI, dTO, di1, di2, dl1, dl2⟩ := hdf
    have D1 := Draws.list (prog := prog) (w := w) (A := A.in1) hA i1 l1 n1 xs
    have D2 := Draws.tuple (prog := prog) (w := w) (A := A.in1) hA i2 l2 n2 ys
    rw [hn] at D2
    refine wpAny_pyIter_zip hz (h z [z, TO, i1, i2] (fun i h => IsTupOf2 h TI (.ref i1) (.ref i2) ∧ (h.IsListIter i1 l1 i ∧ h.IsList l1 xs) ∧ (h.IsTupleIter i2 l2 i ∧ h.IsTuple l2 ys) ∧
      ((IsZip h z TI TO .none ∧ ∃ a b, IsTupOf2 h TO a b) ∨ ∃ T f oT, IsZipHeld h z TI TO T f ∧ h.get? T = some oT ∧ T ≠ z ∧ T ≠ i1 ∧ T ≠ i2 ∧ T ≠ d)) s.heap s.toks ?_
      ⟨hTI, ⟨h1, hl1⟩, ⟨h2, hl2⟩, .inl ⟨hz, a, b, hTO⟩⟩ (fun _ _ e => e) fun b hb => .inl hb)
    exact {
      off := fun hm => by
        simp only [List.mem_cons, List.not_mem_nil, or_false] at hm
        rcases hm with e | e | e | e
        · exact dz e
        · exact dTO e
        · exact di1 e
        · exact di2 e
      frame := fun i h₁ h₂ st hk => by
        obtain ⟨hTI, ⟨h1, hl1⟩, ⟨h2, hl2⟩, hz⟩ := st
        refine ⟨hk _ _ (Ne.symm dTI) hTI, ⟨h1.at fun o e => hk _ o (Ne.symm di1) e, hl1.at fun o e => hk _ o (Ne.symm dl1) e⟩, ⟨h2.at fun o e => hk _ o (Ne.symm di2) e, hl2.at fun o e => hk _ o (Ne.symm dl2) e⟩, ?_⟩
        rcases hz with ⟨hz, a, b, hTO⟩ | ⟨T, f, oT, hz, hT, r1, r2, r3, r4⟩
        · exact .inl ⟨hk _ _ (Ne.symm dz) hz, a, b, hk _ _ (Ne.symm dTO) hTO⟩
        · exact .inr ⟨T, f, oT, hk _ _ (Ne.symm dz) hz, hk _ _ r4 hT, r1, r2, r3, r4⟩
      item := fun i s₁ Q₁ E₁ hi st hds hQ => by
        obtain ⟨hTI, st1, st2, hz⟩ := st
        have lt : ∀ {c o}, s₁.heap.get? c = some o → s₁.heap.objs.size ≠ c := fun e => Nat.ne_of_gt (Heap.lt_size e)
        have m1 : s₁.heap.objs.size ≠ i1 := let ⟨_, e, _⟩ := st1.1; lt e
        have m2 : s₁.heap.objs.size ≠ i2 := let ⟨_, e, _⟩ := st2.1; lt e
        rcases hz with ⟨hz, a, b, hTO⟩ | ⟨T, f, oT, hz, hT, r1, r2, r3, r4⟩
        · refine wpAny_pyNext_zipD2_item D D1 D2 hz hTI hTO st1 st2 hi hi fun v1 v2 h' tk e1 e2 b1 b2 c1 c2 b5 b6 hk => ?_
          exact hQ s₁.heap.objs.size _ _ h' tk ⟨e1, e2⟩ (.inl ⟨_, b5, rfl, _, rfl⟩)
            ⟨hk _ _ D.TIz D.TITO D.TIi1 D.TIi2 hTI, c1, c2,
              .inr ⟨s₁.heap.objs.size, false, _, b1, b5, lt hz, m1, m2, Nat.ne_of_gt hds⟩⟩
            fun c o hc e => hk c o (fun x => hc (by simp [x])) (fun x => hc (by simp [x])) (fun x => hc (by simp [x])) (fun x => hc (by simp [x])) e
        · refine pyNext_zip_held D D1 D2 hz hT hTI st1 st2 hi hi fun v1 v2 h' tk e1 e2 b1 c1 c2 b5 b6 hk => ?_
          exact hQ s₁.heap.objs.size _ _ h' tk ⟨e1, e2⟩ (.inl ⟨_, b5, rfl, _, rfl⟩)
            ⟨hk _ _ D.TIz D.TIi1 D.TIi2 hTI, c1, c2, .inr ⟨T, true, oT, b1, hk _ _ r1 r2 r3 hT, r1, r2, r3, r4⟩⟩
            fun c o hc e => hk c o (fun x => hc (by simp [x])) (fun x => hc (by simp [x])) (fun x => hc (by simp [x])) e
      done := fun s₁ Q₁ E₁ st hQ => by
        obtain ⟨hTI, st1, st2, hz⟩ := st
        rcases hz with ⟨hz, a, b, hTO⟩ | ⟨T, f, oT, hz, hT, r1, r2, r3, r4⟩
        · exact wpAny_pyNext_zipD2_end D D1 D2 hz hTI hTO st1 st2 (Nat.le_refl _) (Nat.le_refl _) (.inl rfl) fun h' tk hk => hQ h' tk fun c o hc e => hk c o (fun x => hc (by simp [x])) (fun x => hc (by simp [x])) (fun x => hc (by simp [x])) (fun x => hc (by simp [x])) e
        · exact pyNext_zip_held_end D D1 D2 hz hT hTI st1 st2 rfl fun h' tk hk => hQ h' tk fun c o hc e => hk c o (fun x => hc (by simp [x])) (fun x => hc (by simp [x])) (fun x => hc (by simp [x])) e }
end PySem
namespace GX
open PySem PySem.Spec PyProof.Rows L2
theorem mergeK_new : ∀ (more acc : List (L2.Key × V)), ((acc ++ more).map (·.1)).Nodup → mergeK acc more = acc ++ more
  | [], acc, _ => (List.append_nil _).symm
  | p :: more, acc, h => by
    have e : putK acc p.1 p.2 = acc ++ [p] := by
      refine putK_new _ ?_
      cases q : valV acc p.1 with
      | none => rfl
      | some v =>
        exfalso
        have m := valV_in q
        rw [List.map_append, List.nodup_append] at h
        exact h.2.2 _ m _ (by simp) rfl
    show mergeK (putK acc p.1 p.2) more = _
    rw [e, mergeK_new more (acc ++ [p]) (by simpa using h)]
    simp
def zipK (ks : List L2.Key) (ys : List V) : List (L2.Key × V) := ks.zip ys
theorem kv_zip : ∀ {ks : List L2.Key} {ys : List V} {us ws : List Value}, Vals (ks.map kV) us → Vals ys ws → KV (ks.zip ys) (ks.zip ws)
  | [], _, _, _, _, _ => by simp [KV]; exact .nil
  | k :: ks, [], us, ws, r, r2 => by cases r2; simp [KV]; exact .nil
  | k :: ks, y :: ys, us, ws, r, r2 => by
    cases r with
    | cons h t =>
    cases r2 with
    | cons h2 t2 => exact .cons ⟨rfl, h2⟩ (kv_zip t t2)
theorem zip_has {P : Program} {w : World} : ∀ {ks : List L2.Key} {us ws : List Value} {i : Nat} {u v : Value}, Vals (ks.map kV) us → us[i]? = some u → ws[i]? = some v → ∃ k, (ks.zip ws)[i]? = some (k, v) ∧ (mixKind P w).is k u = true
  | [], us, _, i, _, _, r, e, _ => by cases r; simp at e
  | k :: ks, _, ws, i, u, v, r, e, e2 => by
    cases r with
    | cons h t =>
    cases ws with
    | nil => simp at e2
    | cons w' ws =>
      cases i with
      | zero =>
        obtain rfl := Option.some.inj (show some _ = some u by simpa using e)
        obtain rfl := Option.some.inj (show some w' = some v by simpa using e2)
        exact ⟨k, rfl, kV_is h⟩
      | succ i =>
        obtain ⟨k', h1, h2⟩ := zip_has (P := P) (w := w) (i := i) t (by simpa using e) (show ws[i]? = some v by simpa using e2)
        exact ⟨k', by simpa using h1, h2⟩
section
variable {X : Cx}
def tDictZip (K : PySem.W.Frag) (ta : TA) : TE := fun σ H Q => ta σ H fun vs H1 => ∃ (a b : Addr) (ks : List L2.Key) (ys : List V), vs = [.ref a, .ref b] ∧ SqL K H1 a (ks.map kV) ∧ SqT K H1 b ys ∧ ys.length = ks.length ∧ ks.Nodup ∧
  ∀ (p : Addr), H1 p = none → Q (.ref p) (upd H1 p (.dK (ks.zip ys)))
variable {e1 e2 : Expr} {ta : TA} {p p2 pos pos2 : Pos}
theorem pe_dictZip (hc : X.calm = true) (he : PA X [e1, e2] ta) (hg : Gl X "dict") (hm : X.mg "dict" = none) (hv : bootBuiltins "dict" = some (.type "dict")) (hg3 : Gl X "zip") (hm3 : X.mg "zip" = none)
    (hs : starEach [.Call (.Name "zip" p2) [e1, e2] [] pos2] X.env = [(false, eval (.Call (.Name "zip" p2) [e1, e2] [] pos2) X.env)] := by rfl)
    (hs3 : starEach [e1, e2] X.env = (false, eval e1 X.env) :: starEach [e2] X.env := by rfl) (hpl : (backTo pos2 (starEach [e2] X.env)).any (·.1) = false := by rfl) :
    PE X (.Call (.Name "dict" p) [.Call (.Name "zip" p2) [e1, e2] [] pos2] [] pos) (tDictZip X.K ta) := by
  refine ⟨fun pins s σ H Q I hq => ?_⟩
  refine wpAny_Call_Name_kw (ld_blt I hg hm hv ?_)
  refine PyProof.Rows.callWith_type1 ?_ hs rfl
  rw [hs]
  show wpAny _ _ (spliced ((false, eval (.Call (.Name "zip" p2) [e1, e2] [] pos2) X.env) :: backTo pos [])) _ _ s
  refine Calls.spliced_cons ?_
  refine Call_ (ld_blt I hg3 hm3 PyProof.Rows.boot_zip (PyProof.Rows.callWith_type1 (thn (he.run pos2 pins s σ H _ I hq) fun us s1 ⟨vs, H1, I1, r1, q1⟩ => ?_) hs3 hpl))
  obtain ⟨a, b, ks, ys, ex, sx, sy, hxy, nd, q⟩ := q1
  subst ex
  cases r1 with
  | cons r rr =>
  cases rr with
  | cons r' rr =>
  cases rr
  cases r
  cases r'
  obtain ⟨its, rv, p1, hz⟩ := I1.list sx
  obtain ⟨jts, rw2, p3, _⟩ := I1.tuple sy
  obtain ⟨o3, ho3, _⟩ := id p3
  have la : a < s1.heap.objs.size := p1.lt
  have lb : b < s1.heap.objs.size := Heap.lt_size ho3
  refine zip_begins2 (begins_list a its.toArray) (begins_tuple b jts.toArray) p1.isList (show s1.heap.IsTuple b jts.toArray from p3) fun h2 hz' hTI hTO g1 g2 hsz hk => ?_
  refine Calls.spliced_nil ?_
  have l1 := rv.length
  have l2 := rw2.length
  rw [List.length_map] at l1 hz
  have z2 : h2.objs.size = s1.heap.objs.size + 5 := hsz
  have PA' := PairArg.zipLT (prog := X.prog) (w := X.w) (s1.heap.objs.size + 4) (s1.heap.objs.size + 2) (s1.heap.objs.size + 3) s1.heap.objs.size (s1.heap.objs.size + 1) a b (zsep s1.heap.objs.size a b la lb) (Nat.ne_of_lt la) (Nat.ne_of_lt (Nat.lt_succ_of_lt lb)) its.toArray jts.toArray (by simp; omega)
  refine PySem.call_dict_pairs (s := { s1 with heap := h2 }) (knd := mixKind X.prog X.w) (kvs := ks.zip jts) PA' (I1.ok.hd hc) ⟨hz', hTI, ⟨_, _, hTO⟩, ⟨_, g1, rfl, rfl⟩, ⟨_, g2, rfl, rfl⟩, (p1.isList).at fun o e => hk _ o e, (show s1.heap.IsTuple b jts.toArray from p3).at fun o e => hk _ o e⟩ ⟨?_, fun i key v rel => ?_⟩ (by simp; omega) fun h' tk hd' k => ?_
  · rw [List.length_zip]; simp; omega
  · exact zip_has rv (by simpa using rel.1) (by simpa using rel.2)
  · have lo : s1.heap.objs.size ≤ h2.objs.size := by rw [z2]; exact Nat.le_add_right _ _
    have hm : (h2.objs.size == sysModules) = false := beq_eq_false_iff_ne.mpr (Nat.ne_of_gt (Nat.lt_of_lt_of_le I1.big lo))
    have hlen : (ks.zip ys).length ≤ sizeLine := by rw [List.length_zip]; omega
    have kk : ∀ c o, s1.heap.get? c = some o → h'.get? c = some o := fun c o e => k c o (zno _ _ (Heap.lt_size e)) (hk c o e)
    have em : KV (ks.zip ys) (merged [] (ks.zip jts)) := by
      have := KV.merge (kv_zip rv rw2) (kvs := []) (vs := []) .nil
      rw [mergeK_new _ _ (by rw [List.nil_append]; rw [List.map_fst_zip (by omega)]; exact nd)] at this
      exact this
    exact ⟨.ref h2.objs.size, upd H1 h2.objs.size (.dK (ks.zip ys)), I1.laid (t' := tk) kk lo (show ObjOk X.prog X.w _ _ _ (.dK (ks.zip ys)) from ⟨hlen, hm, merged [] (ks.zip jts), em, hd'⟩), rfl, q _ (I1.hok.fresh lo)⟩
end
end GX

set_option Elab.async false
set_option linter.all false
set_option maxRecDepth 100000
set_option maxHeartbeats 4000000
namespace PySem
/-! max, min of two texts -/
theorem CmpOf.strs_gt {prog : Program} {w : World} {A : Around} {P : Nat → Value → Prop} (val : Nat → Str) (hval : ∀ i v, P i v → ∃ t, v = .str (val i) t) :
    CmpOf prog w A .Gt P (fun i j => decide ((val j).cps.toList < (val i).cps.toList)) := fun i j vi vj s Q E hi hj h => by
  obtain ⟨t, rfl⟩ := hval i vi hi
  obtain ⟨u, rfl⟩ := hval j vj hj
  exact richCompare_gives (op := .Gt) (typeIs_str s _ t) (typeIs_str s _ u) F.slot_str_gt F.entry_str_gt (F.args_str_gt_2 _ _) (gives_str_gt _ _ t u) (fun x => nomatch x) h
theorem CmpOf.strs_lt {prog : Program} {w : World} {A : Around} {P : Nat → Value → Prop} (val : Nat → Str) (hval : ∀ i v, P i v → ∃ t, v = .str (val i) t) :
    CmpOf prog w A .Lt P (fun i j => decide ((val i).cps.toList < (val j).cps.toList)) := fun i j vi vj s Q E hi hj h => by
  obtain ⟨t, rfl⟩ := hval i vi hi
  obtain ⟨u, rfl⟩ := hval j vj hj
  exact richCompare_gives (op := .Lt) (typeIs_str s _ t) (typeIs_str s _ u) F.slot_str_lt F.entry_str_lt (F.args_str_lt_2 _ _) (gives_str_lt _ _ t u) (fun x => nomatch x) h
def twoS (a b : Str) (i : Nat) : Str := if i = 0 then a else b
section
variable {prog : Program} {w : World} {A : Around} {E : Value → Shared → Prop} {s : Shared}
theorem two_at {a b : Str} {t u : Tok} {i : Nat} {v : Value} (h : (#[Value.str a t, .str b u] : Array Value)[i]? = some v) : ∃ t, v = .str (twoS a b i) t := by
  match i with
  | 0 => exact ⟨t, by simpa [twoS] using h.symm⟩
  | 1 => exact ⟨u, by simpa [twoS] using h.symm⟩
  | i + 2 => simp at h
theorem max_two_strs {a b : Str} {t u : Tok} {Q : Value → Shared → Prop} (hh : A.handled = none)
    (h : ∀ v h' tk, (∃ t, v = .str (if a.cps.toList < b.cps.toList then b else a) t) → (∀ c o, s.heap.get? c = some o → h'.get? c = some o) → Q v { s with heap := h', toks := tk }) :
    wpAny (model prog w) A (call (.builtin "max") [.str a t, .str b u]) Q E s := by
  have hT : (s.heap.push { cls := .type "tuple", data := .seq #[.str a t, .str b u] }).IsTuple s.heap.objs.size #[.str a t, .str b u] := ⟨_, Heap.get?_push_size _ rfl, rfl, 0, rfl⟩
  refine call_max_two (wpAny_pyIter_tuple hT ?_)
  have hsz : (s.heap.push { cls := .type "tuple", data := .seq #[.str a t, .str b u] }).objs.size = s.heap.objs.size + 1 := Heap.size_push ..
  refine ⟨_, [_, s.heap.objs.size], [_], _, _, _, _, rfl, Walks.tuple (A := A.in1) hh _ s.heap.objs.size (by rw [hsz]; exact Nat.ne_of_lt (Nat.lt_succ_self _)) #[.str a t, .str b u],
    ⟨⟨_, Heap.get?_push_size _ rfl, rfl, rfl⟩, hT.push _⟩, fun c hc => ?_, by simp, CmpOf.strs_gt (twoS a b) (fun _ _ => two_at), fun v h' tk hP hk => ?_⟩
  · show c < ((s.heap.push _).push _).objs.size
    rw [Heap.size_push, hsz]
    rcases List.mem_cons.mp hc with rfl | hc
    · rw [hsz]; exact Nat.lt_succ_self _
    · rcases List.mem_cons.mp hc with rfl | hc
      · exact Nat.lt_succ_of_lt (Nat.lt_succ_self _)
      · cases hc
  · have hold : ∀ c o, s.heap.get? c = some o → h'.get? c = some o := fun c o e => by
      refine hk c o (fun hm => ?_) (Heap.get?_push_of_some _ (Heap.get?_push_of_some _ e))
      rcases List.mem_cons.mp hm with e1 | hm
      · have := Heap.lt_size e; rw [e1, hsz] at this; exact Nat.lt_irrefl _ (Nat.lt_of_succ_lt this)
      · cases hm
    refine h v h' tk ?_ hold
    obtain ⟨t', e⟩ := two_at hP
    refine ⟨t', ?_⟩
    rw [e]
    show Value.str (twoS a b (if decide (a.cps.toList < b.cps.toList) = true then 1 else 0)) t' = _
    by_cases hb : a.cps.toList < b.cps.toList
    · rw [if_pos hb, if_pos (decide_eq_true hb)]; rfl
    · rw [if_neg hb, if_neg (by simpa using hb)]; rfl
theorem min_two_strs {a b : Str} {t u : Tok} {Q : Value → Shared → Prop} (hh : A.handled = none)
    (h : ∀ v h' tk, (∃ t, v = .str (if b.cps.toList < a.cps.toList then b else a) t) → (∀ c o, s.heap.get? c = some o → h'.get? c = some o) → Q v { s with heap := h', toks := tk }) :
    wpAny (model prog w) A (call (.builtin "min") [.str a t, .str b u]) Q E s := by
  have hT : (s.heap.push { cls := .type "tuple", data := .seq #[.str a t, .str b u] }).IsTuple s.heap.objs.size #[.str a t, .str b u] := ⟨_, Heap.get?_push_size _ rfl, rfl, 0, rfl⟩
  refine call_min_two (wpAny_pyIter_tuple hT ?_)
  have hsz : (s.heap.push { cls := .type "tuple", data := .seq #[.str a t, .str b u] }).objs.size = s.heap.objs.size + 1 := Heap.size_push ..
  refine ⟨_, [_, s.heap.objs.size], [_], _, _, _, _, rfl, Walks.tuple (A := A.in1) hh _ s.heap.objs.size (by rw [hsz]; exact Nat.ne_of_lt (Nat.lt_succ_self _)) #[.str a t, .str b u],
    ⟨⟨_, Heap.get?_push_size _ rfl, rfl, rfl⟩, hT.push _⟩, fun c hc => ?_, by simp, CmpOf.strs_lt (twoS a b) (fun _ _ => two_at), fun v h' tk hP hk => ?_⟩
  · show c < ((s.heap.push _).push _).objs.size
    rw [Heap.size_push, hsz]
    rcases List.mem_cons.mp hc with rfl | hc
    · rw [hsz]; exact Nat.lt_succ_self _
    · rcases List.mem_cons.mp hc with rfl | hc
      · exact Nat.lt_succ_of_lt (Nat.lt_succ_self _)
      · cases hc
  · have hold : ∀ c o, s.heap.get? c = some o → h'.get? c = some o := fun c o e => by
      refine hk c o (fun hm => ?_) (Heap.get?_push_of_some _ (Heap.get?_push_of_some _ e))
      rcases List.mem_cons.mp hm with e1 | hm
      · have := Heap.lt_size e; rw [e1, hsz] at this; exact Nat.lt_irrefl _ (Nat.lt_of_succ_lt this)
      · cases hm
    refine h v h' tk ?_ hold
    obtain ⟨t', e⟩ := two_at hP
    refine ⟨t', ?_⟩
    rw [e]
    show Value.str (twoS a b (if decide (b.cps.toList < a.cps.toList) = true then 1 else 0)) t' = _
    by_cases hb : b.cps.toList < a.cps.toList
    · rw [if_pos hb, if_pos (decide_eq_true hb)]; rfl
    · rw [if_neg hb, if_neg (by simpa using hb)]; rfl
end
end PySem
namespace GX
open PySem PySem.Spec PyProof.Rows L2
def rMax2S : List V → Hp → VK → Prop := fun xs H Q => ∃ a b : Str, xs = [.str a, .str b] ∧ Q (.str (if a.cps.toList < b.cps.toList then b else a)) H
def rMin2S : List V → Hp → VK → Prop := fun xs H Q => ∃ a b : Str, xs = [.str a, .str b] ∧ Q (.str (if b.cps.toList < a.cps.toList then b else a)) H
section
variable {X : Cx}
theorem call_max2S (hc : X.calm = true) : CallR X (.builtin "max") rMax2S := by
  intro pins s σ H xs us Q I r h
  obtain ⟨i, j, rfl, q⟩ := h
  obtain ⟨u, w', rfl, ⟨t, rfl⟩, ⟨t', rfl⟩⟩ := vals2 r
  exact max_two_strs (I.ok.hd hc) fun v h' tk ev k => ⟨.str (if i.cps.toList < j.cps.toList then j else i), H, I.kept k, ev, q⟩
theorem call_min2S (hc : X.calm = true) : CallR X (.builtin "min") rMin2S := by
  intro pins s σ H xs us Q I r h
  obtain ⟨i, j, rfl, q⟩ := h
  obtain ⟨u, w', rfl, ⟨t, rfl⟩, ⟨t', rfl⟩⟩ := vals2 r
  exact min_two_strs (I.ok.hd hc) fun v h' tk ev k => ⟨.str (if j.cps.toList < i.cps.toList then j else i), H, I.kept k, ev, q⟩
end
/-! calls of a def told by FnR (star parameters) -/
def tCallR (sp : Sp) (E : XK) (t : TA) : TE := fun σ H Q => t σ H fun vs H1 => sp vs H1 Q E
section
variable {X : Cx} {CX : CXT} {k : Nat} {f : Addr} {sp : Sp} {E : XK} {Es : L2.St → XK} {x : Str} {e : Expr} {es : List Expr} {t : TA} {p pos : Pos} {pins : List (Addr × Obj)} {σ : L2.St} {H : Hp} {s : Shared}
theorem pe_callR (F : FnR X.prog X.w X.K X.mg X.base CX k f sp) (hr : Room k X.A) (hg : Gl X x) (hm : X.mg x = some (.ref f)) (hk : PySem.W.keepIn X.K (.ref f) = true) (hx : Passes CX X E)
    (ha : PA X (e :: es) t) (hdb : (x == ("__debug__" : Str)) = false := by decide) (he : starEach (e :: es) X.env = (false, eval e X.env) :: starEach es X.env := by rfl) (hpl : (backTo pos (starEach es X.env)).any (·.1) = false := by rfl) :
    PE X (.Call (.Name x p) (e :: es) [] pos) (tCallR sp E t) := by
  refine ⟨fun pins s σ H Q I h => ?_⟩
  refine wpAny_Call_Name_kw (ld_glob I hg hm ?_ hdb)
  refine PySem.W.callWith_K (h₀ := X.base) I.ok.mod.kin hk (thn (ha.run pos pins s σ H _ I h) fun us s1 ⟨vs, H1, I1, r, q⟩ => ⟨I1.kIn, ?_⟩) he hpl
  exact wpAny_call (run_fnR F hr hx I1 r q)
theorem pe_callR0 (F : FnR X.prog X.w X.K X.mg X.base CX k f sp) (hr : Room k X.A) (hg : Gl X x) (hm : X.mg x = some (.ref f)) (hk : PySem.W.keepIn X.K (.ref f) = true) (hx : Passes CX X E)
    (hdb : (x == ("__debug__" : Str)) = false := by decide) : PE X (.Call (.Name x p) [] [] pos) (tCallR sp E tNil) := by
  refine ⟨fun pins s σ H Q I h => ?_⟩
  refine wpAny_Call_Name_kw (ld_glob I hg hm ?_ hdb)
  exact PySem.W.callWith_K0 I.kIn hk (wpAny_call (run_fnR (us := []) F hr hx I .nil h))
theorem run_fnRS {Q : VK} {us : List Value} {vs : List V} {E : XK} (F : FnR X.prog X.w X.K X.mg X.base CX k f sp) (hr : Room k X.A) (hx : PassesAt CX X σ E) (I : Inv X pins σ H s) (r : Vals vs us) (h : sp vs H Q E) :
    codeAny (model X.prog X.w) X.A (.call (.ref f) ⟨us, []⟩) (fun r s' => match r with | .ok (.ret v) => EP X pins σ Q v s' | .ok _ => False | .error e => X.xe e s') s := by
  refine codeAny_mono (F X.A X.stack s H us vs Q E hr I.env0 r h) fun r s' hq => ?_
  cases r with
  | error e => exact hx pins H s e s' I hq
  | ok fl =>
    cases fl with
    | ret u => exact I.after hq
    | next => exact False.elim hq
    | brk => exact False.elim hq
    | cont => exact False.elim hq
def tCallRS (sp : Sp) (E : L2.St → XK) (t : TA) : TE := fun σ H Q => t σ H fun vs H1 => sp vs H1 Q (E σ)
theorem pe_callRS (F : FnR X.prog X.w X.K X.mg X.base CX k f sp) (hr : Room k X.A) (hg : Gl X x) (hm : X.mg x = some (.ref f)) (hk : PySem.W.keepIn X.K (.ref f) = true) (hx : ∀ σ, PassesAt CX X σ (Es σ))
    (ha : PA X (e :: es) t) (hdb : (x == ("__debug__" : Str)) = false := by decide) (he : starEach (e :: es) X.env = (false, eval e X.env) :: starEach es X.env := by rfl) (hpl : (backTo pos (starEach es X.env)).any (·.1) = false := by rfl) :
    PE X (.Call (.Name x p) (e :: es) [] pos) (tCallRS sp Es t) := by
  refine ⟨fun pins s σ H Q I h => ?_⟩
  refine wpAny_Call_Name_kw (ld_glob I hg hm ?_ hdb)
  refine PySem.W.callWith_K (h₀ := X.base) I.ok.mod.kin hk (thn (ha.run pos pins s σ H _ I h) fun us s1 ⟨vs, H1, I1, r, q⟩ => ⟨I1.kIn, ?_⟩) he hpl
  exact wpAny_call (run_fnRS F hr (hx σ) I1 r q)
end
theorem bind_star0 {B : List Value → Sem (List (Str × Value))} {pv : Str} (h0 : B [] = (newTuple [] >>= fun t => pure [(pv, t)])) (h1 : ∀ r rs, B (r :: rs) = (newTuple (r :: rs) >>= fun t => pure [(pv, t)])) :
    ∀ us rest : List Value, us.length = ([] : List Str).length → B (us ++ rest) = (newTuple rest >>= fun t => pure (([] : List Str).zip us ++ [(pv, t)]))
  | [], [], _ => h0
  | [], r :: rs, _ => h1 r rs
end GX
namespace GX
open PySem PySem.Spec PyProof.Rows L2
def rMultR : R2 := fun x y H Q => ∃ m n : Nat, x = .int (m : Nat) ∧ y = .int (n : Nat) ∧ n < 1000000000000000000 ∧ Q (.int ((m * n : Nat) : Int)) H
theorem op_MultR {X : Cx} : OpR X (binaryOp .Mult) rMultR := by
  intro pins s σ H x y v u Q I rx ry h
  obtain ⟨m, n, hx, hy, hl, q⟩ := h
  exact op_mul pins s σ H x y v u Q I rx ry ⟨m, n, hx, hy, .inr ⟨by omega, by omega⟩, by rw [Int.natCast_mul] at q; exact q⟩
/-! a def with a star parameter alone -/
theorem star_ok {P : Program} {w : World} {K : PySem.W.Frag} {mg : Str → Option Value} {base : Heap} {CX : CXT} {x qual : Str} {st : Stmt} {f : Addr} {fd : FuncData} {N : List Str} {pv : Str} {k : Nat} {sp : Sp} (F : Fun K x qual st f fd)
    (hb : ∀ us rest : List Value, us.length = ([] : List Str).length → bindArgs fd ⟨us ++ rest, []⟩ = (newTuple rest >>= fun t => pure (([] : List Str).zip us ++ [(pv, t)])))
    (S : FnScope N [pv] (defScope st)) (hCX : StX.CXUp CX)
    (hbody : ∀ (cdv : Value) (A : Around) (outer : List Env) (s : Shared) (H : Hp) (vs : List V) (Q : VK) (E : XK), Room k (A.deeper (envOfC qual (defScope st) s.heap.objs.size f cdv)) → sp vs H Q E →
      ∃ t, PSs (cxOf CX P w K mg base N qual (defScope st) f cdv A outer s H E) (defBody st) t ∧ t { nx := fun _ H' => Q .non H', rt := Q } (start N vs) H) :
    FnR P w K mg base CX (k + 1) f (fun vs H Q E => vs.length ≤ sizeLine ∧ ∀ p, H p = none → sp [V.ref p] (upd H p (.tup vs)) Q E) := by
  obtain ⟨oc, od, kV, doc, pm, an, cdv, ct, osl, rfl, lk, hcd⟩ := F.ex
  have := StX.fn_star (P := P) (w := w) (mg := mg) (base := base) (ps := []) (sp := sp) lk hcd S hCX hb (fun A outer s H vs Q E hr h => hbody cdv A outer s H vs Q E hr h)
  intro A outer s H us vs Q E hr e0 r h
  exact this A outer s H us vs Q E hr e0 r ⟨[], vs, rfl, rfl, h.1, h.2⟩
end GX

set_option Elab.async false
set_option linter.all false
set_option maxRecDepth 100000
set_option maxHeartbeats 4000000
namespace K7
open PySem PySem.Spec PyProof.Rows L2 GX NdefX
/-! ### what a formula is worth -/
mutual
def Fm.ev (ρ : Str → Bool) : Fm → Bool
  | .bit b => b
  | .name x => ρ x
  | .edge _ _ => false
  | .not f => !f.ev ρ
  | .joint w fs => if w then evAny ρ fs else evAll ρ fs
def evAny (ρ : Str → Bool) : List Fm → Bool
  | [] => false
  | f :: r => f.ev ρ || evAny ρ r
def evAll (ρ : Str → Bool) : List Fm → Bool
  | [] => true
  | f :: r => f.ev ρ && evAll ρ r
end
theorem evAny_eq (ρ : Str → Bool) : ∀ fs : List Fm, evAny ρ fs = fs.any (Fm.ev ρ)
  | [] => rfl
  | f :: r => by rw [evAny, evAny_eq ρ r, List.any_cons]
theorem evAll_eq (ρ : Str → Bool) : ∀ fs : List Fm, evAll ρ fs = fs.all (Fm.ev ρ)
  | [] => rfl
  | f :: r => by rw [evAll, evAll_eq ρ r, List.all_cons]
theorem nms_mem {fs : List Fm} {f : Fm} (h : f ∈ fs) {w : Bool} : ∀ x ∈ f.nms, x ∈ (Fm.joint w fs).nms := by
  intro x hx
  obtain ⟨g, mg, e⟩ := List.mem_filterMap.mp hx
  refine List.mem_filterMap.mpr ⟨g, ?_, e⟩
  show g ∈ lvsL fs
  induction fs with
  | nil => cases h
  | cons a r ih =>
    rcases List.mem_cons.mp h with rfl | h
    · exact List.mem_append_left _ mg
    · exact List.mem_append_right _ (ih h)
theorem eds_nil {fs : List Fm} {w : Bool} (e : (Fm.joint w fs).eds = []) : ∀ f ∈ fs, f.eds = [] := by
  intro f h
  refine List.filterMap_eq_nil_iff.mpr fun g mg => ?_
  have := List.filterMap_eq_nil_iff.mp e g
  refine this ?_
  show g ∈ lvsL fs
  clear e this
  induction fs with
  | nil => cases h
  | cons a r ih =>
    rcases List.mem_cons.mp h with rfl | h
    · exact List.mem_append_left _ mg
    · exact List.mem_append_right _ (ih h)
mutual
theorem ev_congr {ρ τ : Str → Bool} : ∀ f : Fm, (∀ x ∈ f.nms, ρ x = τ x) → f.ev ρ = f.ev τ
  | .bit b, _ => rfl
  | .name x, h => h x (by simp [Fm.nms, Fm.lvs, nmOf])
  | .edge _ _, _ => rfl
  | .not f, h => by rw [Fm.ev, Fm.ev, ev_congr f h]
  | .joint w fs, h => by
    have := evs_congr (ρ := ρ) (τ := τ) fs (fun f m x hx => h x (nms_mem m x hx))
    rw [Fm.ev, Fm.ev, this.1, this.2]
theorem evs_congr {ρ τ : Str → Bool} : ∀ fs : List Fm, (∀ f ∈ fs, ∀ x ∈ f.nms, ρ x = τ x) → evAny ρ fs = evAny τ fs ∧ evAll ρ fs = evAll τ fs
  | [], _ => ⟨rfl, rfl⟩
  | f :: r, h => by
    have h1 := ev_congr f (h f List.mem_cons_self)
    have h2 := evs_congr r (fun g m => h g (List.mem_cons_of_mem _ m))
    rw [evAny, evAny, evAll, evAll, h1, h2.1, h2.2]
    exact ⟨rfl, rfl⟩
end
/-! ### turned formulas -/
mutual
def Fm.neg : Fm → Fm
  | .bit b => .bit (!b)
  | .name x => .not (.name x)
  | .edge r x => .edge r x
  | .not f => .not f.neg
  | .joint w fs => .joint (!w) (negL fs)
def negL : List Fm → List Fm
  | [] => []
  | f :: r => f.neg :: negL r
end
theorem negL_map (l : List Fm) : negL l = l.map Fm.neg := by
  induction l with
  | nil => rfl
  | cons f r ih => rw [negL, ih, List.map_cons]
mutual
theorem neg_facts : ∀ f : Fm, f.neg.dep ≤ f.dep + 1 ∧ f.neg.cnt ≤ 2 * f.cnt ∧ f.neg.ok = f.ok ∧ f.neg.nms = f.nms ∧ f.neg.eds = f.eds
  | .bit b => ⟨by simp [Fm.neg, Fm.dep], by simp [Fm.neg, Fm.cnt], rfl, rfl, rfl⟩
  | .name x => by simp [Fm.neg, Fm.dep, Fm.cnt, Fm.ok, Fm.nms, Fm.eds, Fm.lvs, nmOf, edOf]
  | .edge r x => by simp [Fm.neg, Fm.dep, Fm.cnt, Fm.ok, Fm.nms, Fm.eds, Fm.lvs, nmOf, edOf]
  | .not f => by
    obtain ⟨h1, h2, h3, h4, h5⟩ := neg_facts f
    refine ⟨?_, ?_, ?_, ?_, ?_⟩
    · simp only [Fm.neg, Fm.dep]; omega
    · simp only [Fm.neg, Fm.cnt]; omega
    · simp only [Fm.neg, Fm.ok]; exact h3
    · exact h4
    · exact h5
  | .joint w fs => by
    obtain ⟨h1, h2, h3, h4, h5, h6⟩ := negs_facts fs
    refine ⟨?_, ?_, ?_, ?_, ?_⟩
    · simp only [Fm.neg, Fm.dep]; omega
    · simp only [Fm.neg, Fm.cnt]; omega
    · simp only [Fm.neg, Fm.ok]; rw [h3, h6]
    · exact h4
    · exact h5
theorem negs_facts : ∀ fs : List Fm, depL (negL fs) ≤ depL fs + 1 ∧ cntL (negL fs) ≤ 2 * cntL fs ∧ okL (negL fs) = okL fs ∧ (lvsL (negL fs)).filterMap nmOf = (lvsL fs).filterMap nmOf ∧ (lvsL (negL fs)).filterMap edOf = (lvsL fs).filterMap edOf ∧ (negL fs).length = fs.length
  | [] => by simp [negL, depL, cntL, okL, lvsL]
  | f :: r => by
    obtain ⟨h1, h2, h3, h4, h5⟩ := neg_facts f
    obtain ⟨g1, g2, g3, g4, g5, g6⟩ := negs_facts r
    refine ⟨?_, ?_, ?_, ?_, ?_, ?_⟩
    · simp only [negL, depL]; omega
    · simp only [negL, cntL]; omega
    · simp only [negL, okL]; rw [h3, g3]
    · simp only [negL, lvsL, List.filterMap_append]; rw [g4]; exact congrArg (· ++ _) h4
    · simp only [negL, lvsL, List.filterMap_append]; rw [g5]; exact congrArg (· ++ _) h5
    · simp only [negL, List.length_cons, g6]
end
mutual
theorem ev_neg (ρ : Str → Bool) : ∀ f : Fm, f.eds = [] → f.neg.ev ρ = !f.ev ρ
  | .bit b, _ => rfl
  | .name x, _ => rfl
  | .edge r x, h => by simp [Fm.eds, Fm.lvs, edOf] at h
  | .not f, h => by rw [Fm.neg, Fm.ev, Fm.ev, ev_neg ρ f h]
  | .joint w fs, h => by
    obtain ⟨h1, h2⟩ := evs_neg ρ fs (eds_nil h)
    cases w with
    | true => rw [Fm.neg, Fm.ev, Fm.ev]; simp [h2]
    | false => rw [Fm.neg, Fm.ev, Fm.ev]; simp [h1]
theorem evs_neg (ρ : Str → Bool) : ∀ fs : List Fm, (∀ f ∈ fs, f.eds = []) → evAny ρ (negL fs) = !evAll ρ fs ∧ evAll ρ (negL fs) = !evAny ρ fs
  | [], _ => ⟨rfl, rfl⟩
  | f :: r, h => by
    have h1 := ev_neg ρ f (h f List.mem_cons_self)
    obtain ⟨h2, h3⟩ := evs_neg ρ r (fun g m => h g (List.mem_cons_of_mem _ m))
    rw [negL, evAny, evAll, evAny, evAll, h1, h2, h3]
    exact ⟨by simp, by simp⟩
end
/-! ### columns -/
def Col (W c : Nat) (p : Nat → Bool) : Prop := c < 2 ^ W ∧ ∀ r < W, c.testBit r = p r
theorem Col.ext {W a b : Nat} {p q : Nat → Bool} (h : Col W a p) (k : Col W b q) (e : ∀ r < W, p r = q r) : a = b := by
  refine Nat.eq_of_testBit_eq fun r => ?_
  by_cases hr : r < W
  · rw [h.2 r hr, k.2 r hr, e r hr]
  · rw [Nat.testBit_lt_two_pow (Nat.lt_of_lt_of_le h.1 (Nat.pow_le_pow_right (by decide) (by omega))), Nat.testBit_lt_two_pow (Nat.lt_of_lt_of_le k.1 (Nat.pow_le_pow_right (by decide) (by omega)))]
theorem Col.congr {W a : Nat} {p q : Nat → Bool} (h : Col W a p) (e : ∀ r < W, p r = q r) : Col W a q := ⟨h.1, fun r hr => by rw [h.2 r hr, e r hr]⟩
theorem Col.and {W a b : Nat} {p q : Nat → Bool} (h : Col W a p) (k : Col W b q) : Col W (a &&& b) (fun r => p r && q r) :=
  ⟨Nat.and_lt_two_pow _ k.1, fun r hr => by rw [Nat.testBit_and, h.2 r hr, k.2 r hr]⟩
theorem Col.or {W a b : Nat} {p q : Nat → Bool} (h : Col W a p) (k : Col W b q) : Col W (a ||| b) (fun r => p r || q r) :=
  ⟨Nat.or_lt_two_pow h.1 k.1, fun r hr => by rw [Nat.testBit_or, h.2 r hr, k.2 r hr]⟩
theorem Col.full (W : Nat) : Col W (2 ^ W - 1) (fun _ => true) := ⟨by have := Nat.two_pow_pos W; omega, fun r hr => by rw [Nat.testBit_two_pow_sub_one, decide_eq_true hr]⟩
theorem Col.zero (W : Nat) : Col W 0 (fun _ => false) := ⟨Nat.two_pow_pos W, fun r _ => Nat.zero_testBit r⟩
theorem Col.not {W a : Nat} {p : Nat → Bool} (h : Col W a p) : Col W ((2 ^ W - 1) ^^^ a) (fun r => !p r) :=
  ⟨Nat.xor_lt_two_pow (Col.full W).1 h.1, fun r hr => by rw [Nat.testBit_xor, h.2 r hr, (Col.full W).2 r hr]; simp⟩
/-! ### rows by numbers -/
def num (ρ : Str → Bool) : List Str → Nat
  | [] => 0
  | x :: r => (if ρ x then 2 ^ r.length else 0) + num ρ r
theorem num_lt (ρ : Str → Bool) : ∀ l : List Str, num ρ l < 2 ^ l.length
  | [] => by simp [num]
  | x :: r => by
    have := num_lt ρ r
    rw [num, List.length_cons, Nat.pow_succ]
    split <;> omega
theorem num_bit (ρ : Str → Bool) : ∀ (l : List Str) (i : Nat) (x : Str), l[i]? = some x → (num ρ l).testBit (l.length - 1 - i) = ρ x
  | [], i, x, h => by simp at h
  | y :: r, 0, x, h => by
    obtain rfl : y = x := by simpa using h
    have := num_lt ρ r
    rw [num, List.length_cons, show r.length + 1 - 1 - 0 = r.length by omega]
    cases hy : ρ y with
    | true => rw [if_pos rfl, Nat.testBit_two_pow_add_eq, Nat.testBit_lt_two_pow this]; rfl
    | false => rw [if_neg Bool.false_ne_true, Nat.zero_add, Nat.testBit_lt_two_pow this]
  | y :: r, i + 1, x, h => by
    have h : r[i]? = some x := by simpa using h
    have hi := (List.getElem?_eq_some_iff.mp h).1
    have ih := num_bit ρ r i x h
    rw [num, List.length_cons, show r.length + 1 - 1 - (i + 1) = r.length - 1 - i by omega]
    cases hy : ρ y with
    | true => rw [if_pos rfl, Nat.testBit_two_pow_add_gt (by omega)]; exact ih
    | false => rw [if_neg Bool.false_ne_true, Nat.zero_add]; exact ih
/-- the row r over the names l -/
def rowV (l : List Str) (r : Nat) (x : Str) : Bool := r.testBit (l.length - 1 - l.idxOf x)
theorem idx_get {l : List Str} (nd : l.Nodup) {i : Nat} {x : Str} (h : l[i]? = some x) : l.idxOf x = i := by
  obtain ⟨hi, rfl⟩ := List.getElem?_eq_some_iff.mp h
  exact List.Nodup.idxOf_getElem nd i hi
theorem rowV_get {l : List Str} (nd : l.Nodup) {i : Nat} {x : Str} (h : l[i]? = some x) (r : Nat) : rowV l r x = r.testBit (l.length - 1 - i) := by
  rw [rowV, idx_get nd h]
theorem rowV_num {l : List Str} (nd : l.Nodup) (ρ : Str → Bool) {x : Str} (h : x ∈ l) : rowV l (num ρ l) x = ρ x := by
  obtain ⟨i, e⟩ := List.mem_iff_getElem?.mp h
  rw [rowV_get nd e, num_bit ρ l i x e]
def setB (ρ : Str → Bool) (x : Str) (b : Bool) (y : Str) : Bool := if y = x then b else ρ y
/-- f hangs on x -/
def Hangs (f : Fm) (x : Str) : Prop := ∃ ρ : Str → Bool, f.ev (setB ρ x false) ≠ f.ev (setB ρ x true)
theorem not_hangs {f : Fm} {x : Str} (h : x ∉ f.nms) : ¬ Hangs f x := by
  rintro ⟨ρ, hn⟩
  refine hn (ev_congr f fun y m => ?_)
  have : y ≠ x := fun e => h (e ▸ m)
  rw [setB, setB, if_neg this, if_neg this]
theorem bit_add {r j k : Nat} (h : r.testBit j = false) : (r + 2 ^ j).testBit k = if k = j then true else r.testBit k := by
  rw [Nat.testBit_eq_decide_div_mod_eq] at h
  have h0 : r / 2 ^ j % 2 = 0 := by have := of_decide_eq_false h; omega
  rw [Nat.testBit_eq_decide_div_mod_eq, Nat.testBit_eq_decide_div_mod_eq]
  rcases Nat.lt_trichotomy k j with hk | hk | hk
  · rw [if_neg (by omega)]
    have e : 2 ^ j = 2 ^ k * 2 ^ (j - k) := by rw [← Nat.pow_add]; congr 1; omega
    have e2 : 2 ^ (j - k) = 2 * 2 ^ (j - k - 1) := by rw [← Nat.pow_succ']; congr 1; omega
    rw [e, Nat.add_mul_div_left _ _ (Nat.two_pow_pos k), e2]
    refine decide_eq_decide.mpr ?_
    omega
  · subst hk
    rw [if_pos rfl, Nat.add_div_right r (Nat.two_pow_pos k)]
    exact decide_eq_true (by omega)
  · rw [if_neg (by omega)]
    have e : 2 ^ k = 2 ^ j * (2 * 2 ^ (k - j - 1)) := by rw [← Nat.pow_succ', ← Nat.pow_add]; congr 1; omega
    rw [e, ← Nat.div_div_eq_div_mul, ← Nat.div_div_eq_div_mul, ← Nat.div_div_eq_div_mul r, ← Nat.div_div_eq_div_mul (r / 2 ^ j), Nat.add_div_right r (Nat.two_pow_pos j)]
    rw [show (r / 2 ^ j + 1) / 2 = r / 2 ^ j / 2 by omega]
/-- told by the rows: names l, x at place i of it -/
theorem hangs_rows {f : Fm} {l : List Str} (nd : l.Nodup) (all : ∀ y ∈ f.nms, y ∈ l) {i : Nat} {x : Str} (h : l[i]? = some x) :
    Hangs f x ↔ ∃ r < 2 ^ l.length, r.testBit (l.length - 1 - i) = false ∧ r + 2 ^ (l.length - 1 - i) < 2 ^ l.length ∧ f.ev (rowV l r) ≠ f.ev (rowV l (r + 2 ^ (l.length - 1 - i))) := by
  have hi := (List.getElem?_eq_some_iff.mp h).1
  have key : ∀ r : Nat, r.testBit (l.length - 1 - i) = false → ∀ y ∈ l, rowV l (r + 2 ^ (l.length - 1 - i)) y = setB (rowV l r) x true y ∧ rowV l r y = setB (rowV l r) x false y := by
    intro r hr y m
    obtain ⟨j, ej⟩ := List.mem_iff_getElem?.mp m
    have hj := (List.getElem?_eq_some_iff.mp ej).1
    have add : ∀ k, (r + 2 ^ (l.length - 1 - i)).testBit k = if k = l.length - 1 - i then true else r.testBit k := by
      intro k
      exact bit_add hr
    rw [rowV_get nd ej, rowV_get nd ej, add, setB, setB]
    by_cases e : y = x
    · subst e
      have ij : j = i := (idx_get nd ej).symm.trans (idx_get nd h)
      subst ij
      rw [if_pos rfl, if_pos rfl, if_pos rfl]
      exact ⟨rfl, hr⟩
    · rw [if_neg e, if_neg e, rowV_get nd ej]
      have : l.length - 1 - j ≠ l.length - 1 - i := fun z => e (by
        have : j = i := by omega
        subst this
        exact Option.some.inj (ej.symm.trans h))
      rw [if_neg this]
      exact ⟨rfl, rfl⟩
  constructor
  · rintro ⟨ρ, hn⟩
    have ml : x ∈ l := List.mem_of_getElem? h
    have b0 : (num (setB ρ x false) l).testBit (l.length - 1 - i) = false := by rw [num_bit _ l i x h, setB, if_pos rfl]
    refine ⟨num (setB ρ x false) l, num_lt _ _, b0, ?_, ?_⟩
    · refine Nat.lt_pow_two_of_testBit _ fun k hk => ?_
      rw [bit_add b0, if_neg (by omega)]
      exact Nat.testBit_lt_two_pow (Nat.lt_of_lt_of_le (num_lt _ _) (Nat.pow_le_pow_right (by decide) hk))
    · have e1 : f.ev (rowV l (num (setB ρ x false) l)) = f.ev (setB ρ x false) := ev_congr f fun y m => rowV_num nd _ (all y m)
      have e2 : f.ev (rowV l (num (setB ρ x false) l + 2 ^ (l.length - 1 - i))) = f.ev (setB ρ x true) := ev_congr f fun y m => by
        rw [(key _ b0 y (all y m)).1, setB, setB]
        by_cases e : y = x
        · rw [if_pos e, if_pos e]
        · rw [if_neg e, if_neg e, rowV_num nd _ (all y m), setB, if_neg e]
      rw [e1, e2]; exact hn
  · rintro ⟨r, hr, b0, _, hn⟩
    refine ⟨rowV l r, ?_⟩
    rw [← ev_congr f fun y m => (key r b0 y (all y m)).2, ← ev_congr f fun y m => (key r b0 y (all y m)).1]
    exact hn
/-- the two halves of a column -/
theorem halves {f : Fm} {x : Str} {l : List Str} (nd : (x :: l).Nodup) (all : ∀ y ∈ f.nms, y ∈ x :: l) {c : Nat} (h : Col (2 ^ (x :: l).length) c (fun r => f.ev (rowV (x :: l) r))) :
    (c / 2 ^ 2 ^ l.length = c % 2 ^ 2 ^ l.length) ↔ ¬ Hangs f x := by
  have eW : 2 ^ (x :: l).length = 2 ^ l.length + 2 ^ l.length := by rw [List.length_cons, Nat.pow_succ]; omega
  have hr := hangs_rows nd all (i := 0) (x := x) rfl
  have e0 : (x :: l).length - 1 - 0 = l.length := by simp
  rw [e0] at hr
  have hb : ∀ r < 2 ^ l.length, (c / 2 ^ 2 ^ l.length).testBit r = f.ev (rowV (x :: l) (r + 2 ^ l.length)) ∧ (c % 2 ^ 2 ^ l.length).testBit r = f.ev (rowV (x :: l) r) := by
    intro r hr
    constructor
    · rw [Nat.testBit_div_two_pow, h.2 _ (by omega), Nat.add_comm]
    · rw [Nat.testBit_mod_two_pow, decide_eq_true hr, Bool.true_and, h.2 _ (by omega)]
  constructor
  · intro e hg
    obtain ⟨r, _, b0, lt, hn⟩ := hr.mp hg
    have hlt : r < 2 ^ l.length := by omega
    obtain ⟨h1, h2⟩ := hb r hlt
    rw [e, h2] at h1
    exact hn h1
  · intro hg
    refine Nat.eq_of_testBit_eq fun r => ?_
    by_cases hlt : r < 2 ^ l.length
    · obtain ⟨h1, h2⟩ := hb r hlt
      rw [h1, h2]
      by_cases e : f.ev (rowV (x :: l) r) = f.ev (rowV (x :: l) (r + 2 ^ l.length))
      · exact e.symm
      · exact absurd (hr.mpr ⟨r, by omega, Nat.testBit_lt_two_pow hlt, by omega, e⟩) hg
    · rw [Nat.testBit_mod_two_pow, decide_eq_false hlt, Bool.false_and, Nat.testBit_div_two_pow]
      refine Nat.testBit_lt_two_pow (Nat.lt_of_lt_of_le h.1 (Nat.pow_le_pow_right (by decide) ?_))
      omega
end K7

set_option Elab.async false
set_option linter.all false
set_option maxRecDepth 100000
set_option maxHeartbeats 4000000
namespace K7
open PySem PySem.Spec PyProof.Rows L2 GX NdefX
def BitsAt (H : Hp) (bd : Addr) (W : Nat) (g : Nat → Str → Bool) (f : Fm) : Prop := ∃ kvs : List (L2.Key × V), H bd = some (.dK kvs) ∧ ∀ x ∈ f.nms, ∃ c : Nat, valV kvs (.inr x) = some (.int (c : Nat)) ∧ Col W c (fun r => g r x)
def spWorked (n : Nat) : Sp := fun vs H Q _ => ∃ (v sv : V) (bd : Addr) (f : Fm) (W : Nat) (g : Nat → Str → Bool), vs = [v, .ref bd, sv, .int ((2 ^ W - 1 : Nat) : Int)] ∧ Dh H v f.data ∧ f.dep ≤ n ∧ f.eds = [] ∧ BitsAt H bd W g f ∧ ∀ (c : Nat) H1, Same H H1 → Col W c (fun r => f.ev (g r)) → Q (.int (c : Nat)) H1
theorem BitsAt.same {H H1 : Hp} {bd : Addr} {W : Nat} {g : Nat → Str → Bool} {f : Fm} (h : BitsAt H bd W g f) (s : Same H H1) : BitsAt H1 bd W g f := by
  obtain ⟨kvs, e, h⟩ := h
  exact ⟨kvs, s _ _ e, h⟩
theorem BitsAt.sub {H : Hp} {bd : Addr} {W : Nat} {g : Nat → Str → Bool} {f f' : Fm} (h : BitsAt H bd W g f) (s : ∀ x ∈ f'.nms, x ∈ f.nms) : BitsAt H bd W g f' := by
  obtain ⟨kvs, e, h⟩ := h
  exact ⟨kvs, e, fun x m => h x (s x m)⟩
theorem intEq (a b : Nat) : decide (V.int (a : Nat) = V.int (b : Nat)) = decide (a = b) := decide_eq_decide.mpr ⟨fun h => by have := V.int.inj h; omega, fun h => by rw [h]⟩
theorem dhAll_at {H : Hp} {xs : List V} {fs : List Fm} {i : Nat} {x : V} (h : DhAll H xs (fs.map Fm.data)) (e : xs[i]? = some x) : ∃ f, fs[i]? = some f ∧ Dh H x f.data := by
  obtain ⟨d, hd2, hdx⟩ := DhAll.get _ h e
  rw [List.getElem?_map] at hd2
  cases hg : fs[i]? with
  | none => rw [hg] at hd2; cases hd2
  | some g => rw [hg] at hd2; cases hd2; exact ⟨g, rfl, hdx⟩
theorem takeS {α : Type} {l : List α} {i : Nat} {x : α} (h : l[i]? = some x) : l.take (i + 1) = l.take i ++ [x] := by
  rw [List.take_add_one, h]; rfl
section
variable {P : Program} {w : World} {K : PySem.W.Frag} {mg : Str → Option Value} {base : Heap}
theorem ok_worked (D : Pr P K mg) (k : Nat) : ∀ n, FnOk P w K mg base CX0 (k + n) D.worked.f D.worked.fd ["formula", "bits", "seen", "full"] (spWorked n) := by
  intro n
  induction n with
  | zero =>
    refine ⟨fun vs H Q E h => ?_, fun A outer s H args us vs Q E hr he hb hv h => ?_⟩
    · obtain ⟨v, sv, bd, f, W, g, rfl, _⟩ := h
      rfl
    · obtain ⟨v, sv, bd, f, W, g, rfl, _, hd, _⟩ := h
      have := f.dep_pos
      omega
  | succ n ih =>
  have G_worked : FnOk P w K mg base CX0 (k + n) D.worked.f D.worked.fd ["formula", "bits", "seen", "full"] (spWorked n) := ih
  refine D.worked.F.ok sc_worked (fun vs H Q E h => ?_) (fun cdv A outer s H vs Q E hr h => ?_)
  · obtain ⟨v, sv, bd, f, W, g, rfl, _⟩ := h
    rfl
  · obtain ⟨v, sv, bd, f, W, g, rfl, hd, hn, he, hb, q⟩ := h
    have hr : Room (k + n) _ := hr
    refine ⟨_, (pss_cons (ps_asg (pv 0) (pg_tup rfl (pgs_cons (pg_name (i := 4) sc_worked.nd rfl (.inl rfl)) (pgs_cons (pg_name (i := 5) sc_worked.nd rfl (.inl rfl)) pgs_nil))))
      (pss_cons (ps_if (pt_cmpR op_eq (pv 4) pe_str (nomark _)) (pss_one (ps_ret (pe_dget (L2.hu_of hr) (pv 1) (pv 5) (fun _ _ => rfl)))) pss_nil)
      (pss_cons (ps_if (pt_cmpR op_eq (pv 4) pe_str (nomark _)) (pss_one (ps_ret (pe_op (r := rXorN) op_XorN (pv 3) (pe_call G_worked (hr.mono (by omega)) (by rfl) D.worked.g D.worked.F.kp D.worked.b .nil pass0 (pa_cons (pv 5) (pa_cons (pv 1) (pa_cons (pv 2) (pa_cons (pv 3) pa_nil)))))))) pss_nil)
      (pss_cons (ps_if (pt_cmpR op_eq (pv 4) pe_str (nomark _)) (pss_cons (ps_set (i := 6) sc_worked.nd rfl (.inl rfl) (pv 3)) (pss_cons (ps_for PassesOwn.never rfl (pi_tup (pv 5)) (pg_name (i := 7) sc_worked.nd rfl (.inl rfl)) (pss_cons (ps_set (i := 6) sc_worked.nd rfl (.inl rfl) (pe_op (r := rAndN) op_AndN (pv 6) (pe_call G_worked (hr.mono (by omega)) (by rfl) D.worked.g D.worked.F.kp D.worked.b .nil pass0 (pa_cons (pv 7) (pa_cons (pv 1) (pa_cons (pv 2) (pa_cons (pv 3) pa_nil))))))) (pss_one (ps_if (pt_cmpR op_eq (pv 6) pe_int (nomark _)) (pss_one (ps_ret pe_int)) pss_nil)))) (pss_one (ps_ret (pv 6))))) pss_nil)
      (pss_cons (ps_if (pt_cmpR op_eq (pv 4) pe_str (nomark _)) (pss_cons (ps_set (i := 6) sc_worked.nd rfl (.inl rfl) pe_int) (pss_cons (ps_for PassesOwn.never rfl (pi_tup (pv 5)) (pg_name (i := 7) sc_worked.nd rfl (.inl rfl)) (pss_cons (ps_set (i := 6) sc_worked.nd rfl (.inl rfl) (pe_op (r := rOrN) op_OrN (pv 6) (pe_call G_worked (hr.mono (by omega)) (by rfl) D.worked.g D.worked.F.kp D.worked.b .nil pass0 (pa_cons (pv 7) (pa_cons (pv 1) (pa_cons (pv 2) (pa_cons (pv 3) pa_nil))))))) (pss_one (ps_if (pt_cmpR op_eq (pv 6) (pv 3) (nomark _)) (pss_one (ps_ret (pv 3))) pss_nil)))) (pss_one (ps_ret (pv 6))))) pss_nil)
      (pss_cons (ps_if (pt_cmpR op_eq (pv 4) pe_str (nomark _)) (pss_one (ps_ret (pe_op (r := rMultR) op_MultR (pv 3) (pv 5)))) pss_nil)
      (pss_cons (ps_if (pt_cmpR op_eq (pv 4) pe_str (nomark _)) (pss_one (ps_ret (pe_op (r := rAndN) op_AndN (pe_dget (L2.hu_of hr) (pv 1) (pv 5) (fun _ _ => rfl)) (pe_op (r := rXorN) op_XorN (pv 3) (pe_dget (L2.hu_of hr) (pv 2) (pv 5) (fun _ _ => rfl)))))) pss_nil)
      (pss_one (ps_ret (pe_op (r := rAndN) op_AndN (pe_dget (L2.hu_of hr) (pv 2) (pv 5) (fun _ _ => rfl)) (pe_op (r := rXorN) op_XorN (pv 3) (pe_dget (L2.hu_of hr) (pv 1) (pv 5) (fun _ _ => rfl))))))))))))), ?_⟩
    obtain ⟨a, rfl, cs⟩ := subs_dh hd
    rcases cs with ⟨b, rfl, e⟩ | ⟨x, rfl, e⟩ | ⟨r, x, rfl, e⟩ | ⟨f1, x2, rfl, e, h2⟩ | ⟨w2, fs, a2, zs, rfl, e, e2, hz⟩
    · refine ⟨.ref a, rfl, a, _, rfl, sqT e, rfl, .str "bit", _, rfl, .int (if b then 1 else 0), [], rfl, rfl, ?_⟩
      refine ⟨.str "bit", rfl, rfl, _, rfl, ?_⟩
      rw [strEq, decide_eq_false (by simp)]
      refine iteF ⟨.str "bit", rfl, rfl, _, rfl, ?_⟩
      rw [strEq, decide_eq_false (by simp)]
      refine iteF ⟨.str "bit", rfl, rfl, _, rfl, ?_⟩
      rw [strEq, decide_eq_false (by simp)]
      refine iteF ⟨.str "bit", rfl, rfl, _, rfl, ?_⟩
      rw [strEq, decide_eq_false (by simp)]
      refine iteF ⟨.str "bit", rfl, rfl, _, rfl, ?_⟩
      rw [strEq, decide_eq_true rfl]
      refine iteT ⟨_, rfl, _, rfl, 2 ^ W - 1, if b then 1 else 0, rfl, by cases b <;> rfl, by cases b <;> decide, ?_⟩
      refine q _ H (Same.refl _) ?_
      cases b with
      | true => rw [if_pos rfl, Nat.mul_one]; exact Col.full W
      | false => rw [if_neg Bool.false_ne_true, Nat.mul_zero]; exact Col.zero W
    · refine ⟨.ref a, rfl, a, _, rfl, sqT e, rfl, .str "name", _, rfl, .str x, [], rfl, rfl, ?_⟩
      refine ⟨.str "name", rfl, rfl, _, rfl, ?_⟩
      rw [strEq, decide_eq_true rfl]
      obtain ⟨kvs, eb, hv⟩ := hb
      obtain ⟨c, ec, hc⟩ := hv x (by simp [Fm.nms, Fm.lvs, nmOf])
      refine iteT ⟨.ref bd, rfl, .str x, rfl, bd, .int (c : Nat), rfl, .inl ⟨kvs, .inr x, .inl eb, rfl, ec.symm⟩, ?_⟩
      exact q c H (Same.refl _) hc
    · simp [Fm.eds, Fm.lvs, edOf] at he
    · refine ⟨.ref a, rfl, a, _, rfl, sqT e, rfl, .str "not", _, rfl, x2, [], rfl, rfl, ?_⟩
      refine ⟨.str "not", rfl, rfl, _, rfl, ?_⟩
      rw [strEq, decide_eq_false (by simp)]
      refine iteF ⟨.str "not", rfl, rfl, _, rfl, ?_⟩
      rw [strEq, decide_eq_true rfl]
      refine iteT ⟨_, rfl, x2, rfl, .ref bd, rfl, sv, rfl, _, rfl, x2, sv, bd, f1, W, g, rfl, h2, ?_, he, hb, fun c H1 s1 hc => ?_⟩
      · simp only [Fm.dep] at hn; omega
      · exact ⟨2 ^ W - 1, c, rfl, rfl, q _ H1 s1 hc.not⟩
    · have zl : zs.length = fs.length := by have := hz.length; rwa [List.length_map] at this
      have hdep : ∀ f ∈ fs, f.dep ≤ n := depL_le.mp (by simp only [Fm.dep] at hn; omega)
      have heds := eds_nil he
      have hbs : ∀ f ∈ fs, BitsAt H bd W g f := fun f m => hb.sub (nms_mem m)
      refine ⟨.ref a, rfl, a, _, rfl, sqT e, rfl, .str (jK w2), _, rfl, .ref a2, [], rfl, rfl, ?_⟩
      refine ⟨.str (jK w2), rfl, rfl, _, rfl, ?_⟩
      rw [strEq, decide_eq_false (by cases w2 <;> simp [jK])]
      refine iteF ⟨.str (jK w2), rfl, rfl, _, rfl, ?_⟩
      rw [strEq, decide_eq_false (by cases w2 <;> simp [jK])]
      refine iteF ⟨.str (jK w2), rfl, rfl, _, rfl, ?_⟩
      cases w2 with
      | false =>
        have q : ∀ (c : Nat) H1, Same H H1 → Col W c (fun r => fs.all fun f => f.ev (g r)) → Q (.int (c : Nat)) H1 := fun c H1 s1 h => q c H1 s1 (h.congr fun r _ => by rw [Fm.ev, if_neg Bool.false_ne_true, evAll_eq])
        rw [strEq, decide_eq_true (show jK false = Str.ofString "and" from rfl)]
        refine iteT ⟨_, rfl, .ref a2, rfl, a2, rfl, ⟨_, sqT e2⟩, forTt (fun i σ H' => ∃ (c : Nat) (c7 : Option V), σ = [some (.ref a), some (.ref bd), some sv, some (.int ((2 ^ W - 1 : Nat) : Int)), some (.str (jK false)), some (.ref a2), some (.int (c : Nat)), c7] ∧ Same H H' ∧ Col W c (fun r => (fs.take i).all fun f => f.ev (g r))) e2 ?_ (fun i σ H' o ⟨c, c7, _, s1, _⟩ e => s1 _ _ e) ?_ ?_⟩
        · exact ⟨2 ^ W - 1, _, rfl, Same.refl _, (Col.full W).congr fun r _ => rfl⟩
        · rintro i x σ H2 hx ⟨c, c7, rfl, s2, hc⟩
          obtain ⟨f1, ef, hf⟩ := dhAll_at hz hx
          have mf := List.mem_of_getElem? ef
          refine ⟨_, rfl, x, rfl, .ref bd, rfl, sv, rfl, _, rfl, x, sv, bd, f1, W, g, rfl, hf.same s2, hdep f1 mf, heds f1 mf, (hbs f1 mf).same s2, fun c2 H3 s3 hc2 => ?_⟩
          refine ⟨c, c2, rfl, rfl, .int ((c &&& c2 : Nat) : Int), rfl, rfl, ?_⟩
          have hcc : Col W (c &&& c2) (fun r => (fs.take (i + 1)).all fun f => f.ev (g r)) := (hc.and hc2).congr fun r _ => by rw [takeS ef, List.all_append, List.all_cons, List.all_nil, Bool.and_true]
          refine ⟨_, rfl, ?_⟩
          rw [show decide (V.int ((c &&& c2 : Nat) : Int) = V.int 0) = decide (c &&& c2 = 0) from intEq _ 0]
          by_cases h0 : c &&& c2 = 0
          · rw [decide_eq_true h0]
            refine iteT ?_
            refine q 0 H3 (s2.trans s3) ((Col.zero W).congr fun r hr => ?_)
            rw [h0] at hcc
            have z := hcc.2 r hr
            rw [Nat.zero_testBit] at z
            obtain ⟨y, my, hy⟩ := List.all_eq_false.mp z.symm
            refine (List.all_eq_false.mpr ⟨y, List.mem_of_mem_take my, hy⟩).symm
          · rw [decide_eq_false h0]
            exact iteF ⟨_, _, rfl, s2.trans s3, hcc⟩
        · rintro σ H2 ⟨c, c7, rfl, s2, hc⟩
          rw [zl, List.take_length] at hc
          exact ⟨_, rfl, q c H2 s2 hc⟩
      | true =>
        have q : ∀ (c : Nat) H1, Same H H1 → Col W c (fun r => fs.any fun f => f.ev (g r)) → Q (.int (c : Nat)) H1 := fun c H1 s1 h => q c H1 s1 (h.congr fun r _ => by rw [Fm.ev, if_pos rfl, evAny_eq])
        rw [strEq, decide_eq_false (by simp [jK])]
        refine iteF ⟨.str (jK true), rfl, rfl, _, rfl, ?_⟩
        rw [strEq, decide_eq_true (show jK true = Str.ofString "or" from rfl)]
        refine iteT ⟨.ref a2, rfl, a2, rfl, ⟨_, sqT e2⟩, forTt (fun i σ H' => ∃ (c : Nat) (c7 : Option V), σ = [some (.ref a), some (.ref bd), some sv, some (.int ((2 ^ W - 1 : Nat) : Int)), some (.str (jK true)), some (.ref a2), some (.int (c : Nat)), c7] ∧ Same H H' ∧ Col W c (fun r => (fs.take i).any fun f => f.ev (g r))) e2 ?_ (fun i σ H' o ⟨c, c7, _, s1, _⟩ e => s1 _ _ e) ?_ ?_⟩
        · exact ⟨0, _, rfl, Same.refl _, (Col.zero W).congr fun r _ => rfl⟩
        · rintro i x σ H2 hx ⟨c, c7, rfl, s2, hc⟩
          obtain ⟨f1, ef, hf⟩ := dhAll_at hz hx
          have mf := List.mem_of_getElem? ef
          refine ⟨_, rfl, x, rfl, .ref bd, rfl, sv, rfl, _, rfl, x, sv, bd, f1, W, g, rfl, hf.same s2, hdep f1 mf, heds f1 mf, (hbs f1 mf).same s2, fun c2 H3 s3 hc2 => ?_⟩
          refine ⟨c, c2, rfl, rfl, .int ((c ||| c2 : Nat) : Int), rfl, .int ((2 ^ W - 1 : Nat) : Int), rfl, rfl, ?_⟩
          have hcc : Col W (c ||| c2) (fun r => (fs.take (i + 1)).any fun f => f.ev (g r)) := (hc.or hc2).congr fun r _ => by rw [takeS ef, List.any_append, List.any_cons, List.any_nil, Bool.or_false]
          refine ⟨_, rfl, ?_⟩
          rw [intEq]
          by_cases h0 : c ||| c2 = 2 ^ W - 1
          · rw [decide_eq_true h0]
            refine iteT ⟨_, rfl, ?_⟩
            refine q (2 ^ W - 1) H3 (s2.trans s3) ((Col.full W).congr fun r hr => ?_)
            rw [h0] at hcc
            have z := hcc.2 r hr
            rw [(Col.full W).2 r hr] at z
            obtain ⟨y, my, hy⟩ := List.any_eq_true.mp z.symm
            exact (List.any_eq_true.mpr ⟨y, List.mem_of_mem_take my, hy⟩).symm
          · rw [decide_eq_false h0]
            exact iteF ⟨_, _, rfl, s2.trans s3, hcc⟩
        · rintro σ H2 ⟨c, c7, rfl, s2, hc⟩
          rw [zl, List.take_length] at hc
          exact ⟨_, rfl, q c H2 s2 hc⟩
end
end K7

set_option Elab.async false
set_option linter.all false
set_option maxRecDepth 100000
set_option maxHeartbeats 4000000
namespace K7
open PySem PySem.Spec PyProof.Rows L2 GX NdefX
def txs (p : List Str) : List V := p.map V.str
theorem appL (a b : Str) : (a ++ b).cps.toList = a.cps.toList ++ b.cps.toList := Array.toList_append
/-- a name of the law's kind -/
def NameS (z : Str) : Prop := nameB z = true ∧ z.cps.size ≤ 40
theorem nameS_T (l : List Nat) (h : nameB (T l) = true) : NameS (T l) := by
  refine ⟨h, ?_⟩
  unfold nameB at h
  simp only [Bool.and_eq_true, decide_eq_true_eq] at h
  exact h.1.1.2
theorem nameS_of {z : Str} (h : nameB z = true) : NameS z := by
  have := nameS_T z.cps.toList
  rw [T_of] at this
  exact this h
mutual
theorem wt_data : ∀ f : Fm, wtD f.data ≤ 5 * f.cnt
  | .bit b => by simp [Fm.data, Fm.cnt, wtD, wtL]
  | .name x => by simp [Fm.data, Fm.cnt, wtD, wtL]
  | .edge r x => by simp [Fm.data, Fm.cnt, wtD, wtL]
  | .not f => by have := wt_data f; simp only [Fm.data, Fm.cnt, wtD, wtL]; omega
  | .joint w fs => by have := wt_dataL fs; simp only [Fm.data, Fm.cnt, wtD, wtL]; omega
theorem wt_dataL : ∀ r : List Fm, wtL (dataL r) ≤ 5 * cntL r
  | [] => by simp [dataL, wtL]
  | f :: r => by have := wt_data f; have := wt_dataL r; simp only [dataL, wtL, cntL]; omega
end
theorem str_small (x : String) (h : (Str.ofString x).cps.size ≤ 1000) : strD (.str (Str.ofString x)) = true := decide_eq_true (by omega)
theorem name_strD {z : Str} (h : nameB z = true) : strD (.str z) = true := decide_eq_true (by have := (nameS_of h).2; omega)
mutual
theorem str_data : ∀ f : Fm, f.ok = true → strD f.data = true
  | .bit b, _ => by simp only [Fm.data, strD, strL]; decide
  | .name x, h => by simp only [Fm.data, strD, strL]; rw [show decide (x.cps.size ≤ 1000000) = true from name_strD h]; decide
  | .edge r x, h => by simp only [Fm.data, strD, strL]; rw [show decide (x.cps.size ≤ 1000000) = true from name_strD h]; cases r <;> decide
  | .not f, h => by simp only [Fm.data, strD, strL]; rw [str_data f h]; decide
  | .joint w fs, h => by
    simp only [Fm.ok, Bool.and_eq_true, decide_eq_true_eq] at h
    simp only [Fm.data, strD, strL]; rw [str_dataL fs h.2]; cases w <;> decide
theorem str_dataL : ∀ r : List Fm, okL r = true → strL (dataL r) = true
  | [], _ => rfl
  | f :: r, h => by
    have h2 : f.ok = true ∧ okL r = true := by simpa [okL] using h
    simp only [dataL, strL]; rw [str_data f h2.1, str_dataL r h2.2]; rfl
end
theorem arg_data {H : Hp} {v : V} {f : Fm} (h : Dh H v f.data) (ok : f.ok = true) (hc : f.cnt ≤ 10000) : Arg H v f.data :=
  ⟨h, domL_data 40 [f], by have := wt_data f; omega, str_data f ok⟩
theorem form_data (f : Fm) (ok : f.ok = true) : formL 40 [f.data] = decide (f.dep ≤ 40) := by
  have := formL_data 40 [f] (by simp) (by simpa using ok)
  rw [show [f.data] = [f].map Fm.data from rfl, this]
  refine decide_eq_decide.mpr ?_
  simp [depL]
def BadL (n : Nat) (l : List PyData) : Prop := formL n l = false ∧ domL n l = true
theorem badL_top (n : Nat) {l : List PyData} (h1 : l.all domD = true) (h2 : l.all partD = false) : BadL (n + 1) l := by
  unfold BadL formL domL
  rw [h1, h2]; exact ⟨rfl, rfl⟩
theorem badL_down (n : Nat) {l : List PyData} (h1 : l.all domD = true) (h2 : l.all partD = true) (ne : l.flatMap belowD ≠ []) (h : BadL n (l.flatMap belowD)) : BadL (n + 1) l := by
  unfold BadL formL domL
  rw [h1, h2, if_neg ne, h.1, h.2]; exact ⟨rfl, rfl⟩
def Bad (d : PyData) : Prop := BadL 40 [d] ∧ wtD d ≤ 100000 ∧ strD d = true
theorem Bad.arg {H : Hp} {v : V} {d : PyData} (b : Bad d) (h : Dh H v d) : Arg H v d := ⟨h, b.1.2, b.2.1, b.2.2⟩
/-! ### sorted lists with the same members -/
theorem str_anti {x y : Str} (h1 : ¬ y.cps.toList < x.cps.toList) (h2 : ¬ x.cps.toList < y.cps.toList) : x = y := by
  have e : x.cps.toList = y.cps.toList := List.le_antisymm (List.not_lt.mp h1) (List.not_lt.mp h2)
  rw [T_eq e, T_of]
theorem up_unique : ∀ (ys zs : List Str), SX.Up ys → ys.Nodup → SX.Up zs → zs.Nodup → (∀ z, z ∈ ys ↔ z ∈ zs) → ys = zs
  | [], [], _, _, _, _, _ => rfl
  | [], b :: r, _, _, _, _, h => by simpa using (h b).mpr List.mem_cons_self
  | a :: r, [], _, _, _, _, h => by simpa using (h a).mp List.mem_cons_self
  | a :: r, b :: s, u1, n1, u2, n2, h => by
    have u1' := List.pairwise_cons.mp u1
    have u2' := List.pairwise_cons.mp u2
    have n1' := List.nodup_cons.mp n1
    have n2' := List.nodup_cons.mp n2
    have e : a = b := by
      rcases List.mem_cons.mp ((h a).mp List.mem_cons_self) with q | q
      · exact q
      · rcases List.mem_cons.mp ((h b).mpr List.mem_cons_self) with q2 | q2
        · exact q2.symm
        · exact str_anti (u1'.1 b q2) (u2'.1 a q)
    subst e
    rw [up_unique r s u1'.2 n1'.2 u2'.2 n2'.2 fun z => by
      constructor
      · intro m
        rcases List.mem_cons.mp ((h z).mp (List.mem_cons_of_mem _ m)) with q | q
        · subst q; exact absurd m n1'.1
        · exact q
      · intro m
        rcases List.mem_cons.mp ((h z).mpr (List.mem_cons_of_mem _ m)) with q | q
        · subst q; exact absurd m n2'.1
        · exact q]
theorem Told.unique {ys zs l : List Str} (h : Told ys l) (k : Told zs l) : ys = zs := up_unique _ _ h.1 h.2.1 k.1 k.2.1 fun z => (h.2.2 z).trans (k.2.2 z).symm
theorem ne_same {K : PySem.W.Frag} {H : Hp} {x y : V} {d : PyData} {Q : VK} (h1 : Dh H x d) (h2 : Dh H y d) (hl : d.canLay0 = true) (hd : d.depth ≤ 150) (q : Q (.bl false) H) : RG.rNeDD K x y H Q := by
  refine ⟨d, d, h1.dp, h2.dp, ⟨hl, hl, hd⟩, ?_⟩
  rw [SeqAt.eqv_refl d hl]; exact q
theorem eq_same {K : PySem.W.Frag} {H : Hp} {x y : V} {d : PyData} {Q : VK} (h1 : Dh H x d) (h2 : Dh H y d) (hl : d.canLay0 = true) (hd : d.depth ≤ 150) (q : Q (.bl true) H) : RG.rEqDD K x y H Q := by
  refine ⟨d, d, h1.dp, h2.dp, ⟨hl, hl, hd⟩, ?_⟩
  rw [SeqAt.eqv_refl d hl]; exact q
theorem told_names_ok {f : Fm} (h : f.ok = true) : (∀ y ∈ f.nms, nameB y = true) ∧ ∀ y ∈ f.eds, nameB y = true := by
  refine ⟨fun y m => ?_, fun y m => ?_⟩
  · obtain ⟨g, mg, e⟩ := List.mem_filterMap.mp m
    have ho := lvs_ok f h g mg
    cases g <;> simp only [nmOf] at e <;> first | (cases e; exact ho) | cases e
  · obtain ⟨g, mg, e⟩ := List.mem_filterMap.mp m
    have ho := lvs_ok f h g mg
    cases g <;> simp only [edOf] at e <;> first | (cases e; exact ho) | cases e
theorem dh_ref {H : Hp} {u : V} {f : Fm} (h : Dh H u f.data) : ∃ a, u = .ref a := by
  cases f <;> (simp only [Fm.data] at h; cases h; exact ⟨_, rfl⟩)
mutual
theorem bulk_data : ∀ f : Fm, f.ok = true → f.data.bulk + 1 ≤ 60 * f.cnt
  | .bit b, _ => by
    simp only [Fm.data, Fm.cnt, PyData.bulk, PyData.bulkAll]
    have : (Str.ofString "bit").cps.size = 3 := by decide
    omega
  | .name x, h => by
    have := (nameS_of (show nameB x = true from h)).2
    simp only [Fm.data, Fm.cnt, PyData.bulk, PyData.bulkAll]
    have : (Str.ofString "name").cps.size = 4 := by decide
    omega
  | .edge r x, h => by
    have := (nameS_of (show nameB x = true from h)).2
    simp only [Fm.data, Fm.cnt, PyData.bulk, PyData.bulkAll]
    have : (eK r).cps.size = 4 := by cases r <;> decide
    omega
  | .not f, h => by
    have := bulk_data f h
    simp only [Fm.data, Fm.cnt, PyData.bulk, PyData.bulkAll]
    have : (Str.ofString "not").cps.size = 3 := by decide
    omega
  | .joint w fs, h => by
    simp only [Fm.ok, Bool.and_eq_true, decide_eq_true_eq] at h
    have := bulk_dataL fs h.2
    simp only [Fm.data, Fm.cnt, PyData.bulk, PyData.bulkAll]
    have : (jK w).cps.size ≤ 3 := by cases w <;> decide
    omega
theorem bulk_dataL : ∀ r : List Fm, okL r = true → PyData.bulkAll (dataL r) ≤ 60 * cntL r
  | [], _ => by simp [dataL, PyData.bulkAll]
  | f :: r, h => by
    have h2 : f.ok = true ∧ okL r = true := by simpa [okL] using h
    have := bulk_data f h2.1
    have := bulk_dataL r h2.2
    simp only [dataL, PyData.bulkAll, cntL, List.length_cons]; omega
end
/-! ### a formula's data can be compared and shown -/
theorem signs_small : ∀ c ∈ signs.cps.toList, c < 128 := by decide +kernel
theorem name_small {z : Str} (h : nameB z = true) : ∀ c ∈ z.cps.toList, c < 128 := by
  unfold nameB at h
  simp only [Bool.and_eq_true, List.all_eq_true, decide_eq_true_eq] at h
  exact fun c m => signs_small c (h.2.2 c m)
theorem name_strOk {z : Str} (h : nameB z = true) : PyData.strOk z = true := by
  unfold PyData.strOk
  rw [← Array.all_toList, List.all_eq_true]
  exact fun c m => decide_eq_true (by have := name_small h c m; omega)
mutual
theorem lay_data : ∀ f : Fm, f.ok = true → f.data.canLay0 = true
  | .bit b, _ => by simp only [Fm.data, PyData.canLay0, PyData.canLayAll0]; decide +kernel
  | .name x, h => by simp only [Fm.data, PyData.canLay0, PyData.canLayAll0]; rw [name_strOk h]; decide +kernel
  | .edge r x, h => by simp only [Fm.data, PyData.canLay0, PyData.canLayAll0]; rw [name_strOk h]; cases r <;> decide +kernel
  | .not f, h => by simp only [Fm.data, PyData.canLay0, PyData.canLayAll0]; rw [lay_data f h]; decide +kernel
  | .joint w fs, h => by
    simp only [Fm.ok, Bool.and_eq_true, decide_eq_true_eq] at h
    simp only [Fm.data, PyData.canLay0, PyData.canLayAll0]; rw [lay_dataL fs h.2]; cases w <;> decide +kernel
theorem lay_dataL : ∀ r : List Fm, okL r = true → PyData.canLayAll0 (dataL r) = true
  | [], _ => rfl
  | f :: r, h => by
    have h2 : f.ok = true ∧ okL r = true := by simpa [okL] using h
    simp only [dataL, PyData.canLayAll0]; rw [lay_data f h2.1, lay_dataL r h2.2]; rfl
end
mutual
theorem depth_data : ∀ f : Fm, f.data.depth ≤ 2 * f.dep
  | .bit b => by simp [Fm.data, Fm.dep, PyData.depth, PyData.depthAll]
  | .name x => by simp [Fm.data, Fm.dep, PyData.depth, PyData.depthAll]
  | .edge r x => by simp [Fm.data, Fm.dep, PyData.depth, PyData.depthAll]
  | .not f => by have := depth_data f; simp only [Fm.data, Fm.dep, PyData.depth, PyData.depthAll]; omega
  | .joint w fs => by have := depth_dataL fs; simp only [Fm.data, Fm.dep, PyData.depth, PyData.depthAll]; omega
theorem depth_dataL : ∀ r : List Fm, PyData.depthAll (dataL r) ≤ 2 * depL r
  | [] => by simp [dataL, PyData.depthAll]
  | f :: r => by have := depth_data f; have := depth_dataL r; simp only [dataL, depL, PyData.depthAll]; omega
end
mutual
theorem show_data : ∀ f : Fm, f.data.showable = true ∧ f.data.hasDict = false
  | .bit b => by simp only [Fm.data, PyData.showable, PyData.showableAll, PyData.hasDict, PyData.hasDictAll]; cases b <;> decide +kernel
  | .name x => by simp only [Fm.data, PyData.showable, PyData.showableAll, PyData.hasDict, PyData.hasDictAll]; decide +kernel
  | .edge r x => by simp only [Fm.data, PyData.showable, PyData.showableAll, PyData.hasDict, PyData.hasDictAll]; decide +kernel
  | .not f => by
    obtain ⟨h1, h2⟩ := show_data f
    simp only [Fm.data, PyData.showable, PyData.showableAll, PyData.hasDict, PyData.hasDictAll, h1, h2]; decide +kernel
  | .joint w fs => by
    obtain ⟨h1, h2⟩ := show_dataL fs
    simp only [Fm.data, PyData.showable, PyData.showableAll, PyData.hasDict, PyData.hasDictAll, h1, h2]; decide +kernel
theorem show_dataL : ∀ r : List Fm, PyData.showableAll (dataL r) = true ∧ PyData.hasDictAll (dataL r) = false
  | [] => ⟨rfl, rfl⟩
  | f :: r => by
    obtain ⟨h1, h2⟩ := show_data f
    obtain ⟨h3, h4⟩ := show_dataL r
    simp only [dataL, PyData.showableAll, PyData.hasDictAll, h1, h2, h3, h4]; decide +kernel
end
theorem shortS (x : String) (h : ((Str.ofString x).cps.toList.all fun c => decide (c < 16 ^ 8)) = true) : PyData.leavesShort 8 (.str (Str.ofString x)) = true := by
  simp only [PyData.leavesShort]; exact h
theorem short_name {z : Str} (h : nameB z = true) : (z.cps.toList.all fun c => decide (c < 16 ^ 8)) = true := by
  rw [List.all_eq_true]
  exact fun c m => decide_eq_true (by have := name_small h c m; omega)
mutual
theorem short_data : ∀ f : Fm, f.ok = true → f.data.leavesShort 8 = true
  | .bit b, _ => by simp only [Fm.data, PyData.leavesShort, PyData.leavesShortAll]; cases b <;> decide +kernel
  | .name x, h => by simp only [Fm.data, PyData.leavesShort, PyData.leavesShortAll]; rw [short_name h]; decide +kernel
  | .edge r x, h => by simp only [Fm.data, PyData.leavesShort, PyData.leavesShortAll]; rw [short_name h]; cases r <;> decide +kernel
  | .not f, h => by simp only [Fm.data, PyData.leavesShort, PyData.leavesShortAll]; rw [short_data f h]; decide +kernel
  | .joint w fs, h => by
    simp only [Fm.ok, Bool.and_eq_true, decide_eq_true_eq] at h
    simp only [Fm.data, PyData.leavesShort, PyData.leavesShortAll]; rw [short_dataL fs h.2]; cases w <;> decide +kernel
theorem short_dataL : ∀ r : List Fm, okL r = true → PyData.leavesShortAll 8 (dataL r) = true
  | [], _ => rfl
  | f :: r, h => by
    have h2 : f.ok = true ∧ okL r = true := by simpa [okL] using h
    simp only [dataL, PyData.leavesShortAll]; rw [short_data f h2.1, short_dataL r h2.2]; rfl
end
theorem shown_fit {f : Fm} (ok : f.ok = true) (hc : f.cnt ≤ 1000) : f.data.shown.length ≤ sizeLine :=
  PyData.shown_fits_bulk (B := 8) (by decide) (by decide) (short_data f ok) (by have := bulk_data f ok; have : (2 : Nat) ^ 20 = 1048576 := by decide
                                                                                omega)
theorem eqv_data {f : Fm} (ok : f.ok = true) : PyData.eqv f.data f.data = true := SeqAt.eqv_refl _ (lay_data f ok)
/-! a tuple of names -/
def tupD (ys : List Str) : PyData := .tuple (ys.map PyData.str)
theorem tup_lay {ys : List Str} (h : ∀ y ∈ ys, nameB y = true) : (tupD ys).canLay0 = true ∧ (tupD ys).depth ≤ 150 := by
  unfold tupD
  simp only [PyData.canLay0, PyData.depth]
  have : PyData.canLayAll0 (ys.map PyData.str) = true ∧ PyData.depthAll (ys.map PyData.str) = 0 := by
    induction ys with
    | nil => exact ⟨rfl, rfl⟩
    | cons y r ih =>
      obtain ⟨h1, h2⟩ := ih fun z m => h z (List.mem_cons_of_mem _ m)
      simp only [List.map_cons, PyData.canLayAll0, PyData.canLay0, PyData.depthAll, PyData.depth, h1, h2, name_strOk (h y List.mem_cons_self)]; decide +kernel
  rw [this.1, this.2]; exact ⟨rfl, by omega⟩
theorem tup_dh {H : Hp} {a : Addr} {ys : List Str} (h : H a = some (.tup (txs ys))) : Dh H (.ref a) (tupD ys) := by
  refine .tup h ?_
  clear h
  unfold txs
  induction ys with
  | nil => exact .nil
  | cons y r ih => exact .cons (.str y) ih
/-! ### tuples stay -/
def TupK (H H' : Hp) : Prop := ∀ b xs, H b = some (.tup xs) → H' b = some (.tup xs)
mutual
def noL : PyData → Bool
  | .list _ => false
  | .dict _ => false
  | .tuple xs => noLs xs
  | _ => true
def noLs : List PyData → Bool
  | [] => true
  | d :: r => noL d && noLs r
end
mutual
theorem noL_data : ∀ f : Fm, noL f.data = true
  | .bit b => rfl
  | .name x => rfl
  | .edge r x => rfl
  | .not f => by simp [Fm.data, noL, noLs, noL_data f]
  | .joint w fs => by simp [Fm.data, noL, noLs, noL_dataL fs]
theorem noL_dataL : ∀ r : List Fm, noLs (dataL r) = true
  | [] => rfl
  | f :: r => by simp [dataL, noLs, noL_data f, noL_dataL r]
end
mutual
theorem Dh.tups {H H1 : Hp} (s : TupK H H1) : ∀ (d : PyData) (v : V), noL d = true → Dh H v d → Dh H1 v d
  | .none, _, _, .non => .non
  | .bool _, _, _, .bl b => .bl b
  | .int _, _, _, .int i => .int i
  | .str _, _, _, .str x => .str x
  | .tuple ds, _, n, .tup e h => .tup (s _ _ e) (DhAll.tups s ds _ (by simpa only [noL] using n) h)
theorem DhAll.tups {H H1 : Hp} (s : TupK H H1) : ∀ (ds : List PyData) (vs : List V), noLs ds = true → DhAll H vs ds → DhAll H1 vs ds
  | [], _, _, .nil => .nil
  | d :: ds, _, n, .cons h t => by
    have n : noL d = true ∧ noLs ds = true := by simpa [noLs] using n
    exact .cons (Dh.tups s d _ n.1 h) (DhAll.tups s ds _ n.2 t)
end
theorem Same.tups {H H' : Hp} (s : Same H H') : TupK H H' := fun b xs e => s b _ e
/-- no tracked address is lost by a draw -/
theorem tupK_upd {H : Hp} {D : Addr} {us ys : List V} (e : H D = some (.lst us)) : TupK H (upd H D (.lst ys)) := fun b xs z => by
  rw [upd_ne (fun w => by subst w; rw [e] at z; cases z)]; exact z
end K7

set_option Elab.async false
set_option linter.all false
set_option maxRecDepth 100000
set_option maxHeartbeats 4000000
namespace K7
open PySem PySem.Spec PyProof.Rows L2 GX NdefX
theorem mkO_name {E : XK} {C : Addr} {H H1 : Hp} {x : V} (h : Rai E C H [("name", x)]) (s : Same H H1) :
    [x].length ≤ 1000 ∧ ∀ a, H1 a = none → spNameE C (.ref a :: ([x] ++ [])) (upd H1 a (exo a C none)) (fun v H2 => v = .non ∧ ∃ d fs, H2 a = some (exo a C (some d)) ∧ H2 d = some (exd d fs) ∧ H1 d = none ∧ E (.ref C) (some d) (upd (del H2 a) d (.xd fs))) (fun _ _ _ => False) := by
  refine ⟨by show 1 ≤ 1000; decide, fun a na => ⟨a, x, rfl, upd_same, fun dx nx ne => ?_⟩⟩
  rw [upd_ne ne] at nx
  refine ⟨rfl, dx, _, upd_same, by rw [upd_ne ne, upd_same], nx, h dx _ (s.trans (xsame na nx fun b h1 h2 => ?_)) upd_same⟩
  rw [upd_ne h1, upd_ne h2, upd_ne h1]
theorem mkO_many {E : XK} {C : Addr} {H H1 : Hp} (h : Rai E C H [("limit", .int 10)]) (s : Same H H1) :
    [V.int 10].length ≤ 1000 ∧ ∀ a, H1 a = none → spManyE C (.ref a :: ([V.int 10] ++ [])) (upd H1 a (exo a C none)) (fun v H2 => v = .non ∧ ∃ d fs, H2 a = some (exo a C (some d)) ∧ H2 d = some (exd d fs) ∧ H1 d = none ∧ E (.ref C) (some d) (upd (del H2 a) d (.xd fs))) (fun _ _ _ => False) := by
  refine ⟨by show 1 ≤ 1000; decide, fun a na => ⟨a, 10, rfl, upd_same, by decide, by decide, fun dx nx ne => ?_⟩⟩
  rw [upd_ne ne] at nx
  refine ⟨rfl, dx, _, upd_same, by rw [upd_ne ne, upd_same], nx, h dx _ (s.trans (xsame na nx fun b h1 h2 => ?_)) upd_same⟩
  rw [upd_ne h1, upd_ne h2, upd_ne h1]
/-- what bit_of is asked of a plain formula -/
def BitAsk (Cn : Addr) (f : Fm) (v2 : V) (H : Hp) (Q : VK) (E : XK) : Prop := ∃ (bd : Addr) (kvs : List (L2.Key × V)), v2 = .ref bd ∧ H bd = some (.dK kvs) ∧
  ((∃ ρ : Str → Bool, (∀ x ∈ f.nms, valV kvs (.inr x) = some (.int ((ρ x).toNat : Nat))) ∧ ∀ H1, Same H H1 → Q (.int ((f.ev ρ).toNat : Nat)) H1) ∨
    ∃ x, x ∈ f.nms ∧ valV kvs (.inr x) = none ∧ (∀ y ∈ f.nms, y.cps.toList < x.cps.toList → (valV kvs (.inr y)).isSome = true) ∧ Rai E Cn H [("name", .str x)])
def spBitOf (Cf Cn : Addr) : Sp := fun vs H Q E => ∃ (v v2 : V) (d : PyData), vs = [v, v2] ∧ Arg H v d ∧ (formL 40 [d] = false → RaiN E Cf H) ∧
  (formL 40 [d] = true → ∃ f : Fm, d = f.data ∧ f.cnt ≤ 3900 ∧ f.dep ≤ 40 ∧ (f.eds ≠ [] → RaiN E Cf H) ∧ (f.eds = [] → BitAsk Cn f v2 H Q E))
theorem col1 {b : Bool} : Col 1 b.toNat (fun _ => b) := by
  refine ⟨by cases b <;> decide, fun r hr => ?_⟩
  obtain rfl : r = 0 := by omega
  cases b <;> rfl
section
variable {P : Program} {w : World} {K : PySem.W.Frag} {mg : Str → Option Value} {base : Heap}
theorem ok_bitof {k : Nat} (D : Pr P K mg) : FnOk P w K mg base (CX P w) (k + 42) D.bit_of.f D.bit_of.fd ["formula", "bits"] (spBitOf D.BadFormula.C D.BadName.C) := by
  have G_check_plain : FnOk P w K mg base (CX P w) (k + 7) D.check_plain.f D.check_plain.fd ["formula"] (spPlainC D.BadFormula.C) := ok_checkp D
  have G_told_names : FnOk P w K mg base CX0 (k + 2) D.told_names.f D.told_names.fd ["formula"] (spTold Fm.nms) := ok_told_names D
  have G_worked : FnOk P w K mg base CX0 (k + 40) D.worked.f D.worked.fd ["formula", "bits", "seen", "full"] (spWorked 40) := ok_worked D k 40
  have GX_BadName : FnOk P w K mg base CX0 (k + 1) D.BadName.f D.BadName.fd ["self", "name"] (spNameE D.BadName.C) := ok_badn D
  refine D.bit_of.F.okX sc_bit_of (fun vs H Q E h => ?_) (fun cdv A outer s H vs Q E hr h => ?_)
  · obtain ⟨v, v2, d, rfl, _⟩ := h
    rfl
  · obtain ⟨v, v2, d, rfl, ad, q1, q2⟩ := h
    refine ⟨_, (pss_cons (ps_expr (pe_call G_check_plain (hr.mono (by omega)) (by rfl) D.check_plain.g D.check_plain.F.kp D.check_plain.b .nil (passes_call (takes_of rfl rfl rfl rfl) (fun _ _ _ _ h => h)) (pa_cons (pv 0) pa_nil)))
      (pss_cons (ps_for (by passes_own) rfl (pi_tup (pe_call G_told_names (hr.mono (by omega)) (by rfl) D.told_names.g D.told_names.F.kp D.told_names.b .nil pass0 (pa_cons (pv 0) pa_nil))) (pg_name (i := 2) sc_bit_of.nd rfl (.inl rfl)) (pss_one (ps_if (pt_cmp (pc_dnotin (L2.hu_of hr) (pv 2) (pv 1))) (pss_one (ps_raise rfl (takes_of rfl rfl rfl rfl) (pmk_oex D.BadName.T.O D.BadName.T.iC D.BadName.T.tI GX_BadName (hr.mono (by omega)) D.BadName.b .nil pass0 (by rfl) D.BadName.g (pa_cons (pv 2) pa_nil)))) pss_nil)))
      (pss_one (ps_ret (pe_call G_worked (hr.mono (by omega)) (by rfl) D.worked.g D.worked.F.kp D.worked.b .nil pass0 (pa_cons (pv 0) (pa_cons (pv 1) (pa_cons pe_dnewK (pa_cons pe_int pa_nil))))))))), ?_⟩
    refine ⟨v, rfl, v, d, rfl, ad, q1, fun e => ?_⟩
    obtain ⟨f, rfl, hc, hd, r1, r2⟩ := q2 e
    refine ⟨f, rfl, hc, r1, fun he H1 s1 => ?_⟩
    obtain ⟨bd, kvs, rfl, eb, ask⟩ := r2 he
    refine ⟨v, rfl, v, f, rfl, ad.dh.same s1, hc, fun ys a H2 tl s2 ea => ?_⟩
    have sH := s1.trans s2
    refine ⟨a, rfl, ⟨_, sqT ea⟩, forTt (fun i σ H' => (∃ c2, σ = [some v, some (.ref bd), c2]) ∧ Same H2 H' ∧ ∀ (j : Nat) (y : Str), j < i → ys[j]? = some y → (valV kvs (.inr y)).isSome = true) ea ⟨⟨_, rfl⟩, Same.refl _, fun j y h => absurd h (by omega)⟩ (fun i σ H' o ⟨_, s3, _⟩ e => s3 _ _ e) ?_ ?_⟩
    · rintro i x σ H3 hx ⟨⟨c2, rfl⟩, s3, hp⟩
      obtain ⟨y, ey, rfl⟩ : ∃ y, ys[i]? = some y ∧ V.str y = x := by
        rw [List.getElem?_map] at hx
        cases h : ys[i]? with
        | none => rw [h] at hx; cases hx
        | some y => rw [h] at hx; exact ⟨y, rfl, Option.some.inj hx⟩
      refine ⟨.str y, rfl, .ref bd, rfl, bd, valV kvs (.inr y), rfl, .inl ⟨kvs, .inr y, .inl (s3 _ _ (sH _ _ eb)), rfl, rfl⟩, ?_⟩
      cases hv : valV kvs (.inr y) with
      | some u =>
        refine ⟨false, rfl, iteF ⟨⟨_, rfl⟩, s3, fun j z hj ez => ?_⟩⟩
        rcases Nat.lt_or_ge j i with h | h
        · exact hp j z h ez
        · obtain rfl : j = i := by omega
          rw [ey] at ez; cases ez
          rw [hv]; rfl
      | none =>
        refine ⟨true, rfl, iteT ⟨.str y, rfl, ?_⟩⟩
        rcases ask with ⟨ρ, hρ, _⟩ | ⟨x, mx, nx, bx, rx⟩
        · have := hρ y ((tl.2.2 y).mp (List.mem_of_getElem? ey))
          rw [hv] at this; cases this
        · have exy : y = x := by
            obtain ⟨j, ej⟩ := List.mem_iff_getElem?.mp ((tl.2.2 x).mpr mx)
            have hj := (List.getElem?_eq_some_iff.mp ej).1
            have hi := (List.getElem?_eq_some_iff.mp ey).1
            rcases Nat.lt_trichotomy j i with h | h | h
            · have := hp j x h ej
              rw [nx] at this; cases this
            · subst h; rw [ej] at ey; exact (Option.some.inj ey).symm
            · have up := List.pairwise_iff_getElem.mp tl.1 i j hi hj h
              rw [(List.getElem?_eq_some_iff.mp ej).2, (List.getElem?_eq_some_iff.mp ey).2] at up
              by_cases lt : y.cps.toList < x.cps.toList
              · have := bx y ((tl.2.2 y).mp (List.mem_of_getElem? ey)) lt
                rw [hv] at this; cases this
              · exact str_anti up lt
          subst exy
          exact mkO_name rx (sH.trans s3)
    · rintro σ H3 ⟨⟨c2, rfl⟩, s3, hp⟩
      rw [List.length_map] at hp
      rcases ask with ⟨ρ, hρ, q⟩ | ⟨x, mx, nx, bx, rx⟩
      · refine ⟨v, rfl, .ref bd, rfl, fun Z nZ => ⟨v, .ref Z, bd, f, 1, fun _ => ρ, rfl, ((ad.dh.same sH).same s3).same (same_upd nZ), hd, he, ⟨kvs, (same_upd nZ) _ _ (s3 _ _ (sH _ _ eb)), fun x m => ⟨_, hρ x m, col1⟩⟩, fun c H4 s4 hc => ?_⟩⟩
        rw [hc.ext col1 (fun r _ => rfl)]
        exact q H4 (sH.trans (s3.trans ((same_upd nZ).trans s4)))
      · obtain ⟨j, ej⟩ := List.mem_iff_getElem?.mp ((tl.2.2 x).mpr mx)
        have := hp j x (List.getElem?_eq_some_iff.mp ej).1 ej
        rw [nx] at this; cases this
end
end K7

set_option Elab.async false
set_option linter.all false
set_option maxRecDepth 100000
set_option maxHeartbeats 4000000
namespace K7
open PySem PySem.Spec PyProof.Rows L2 GX NdefX
theorem dh_upd {H : Hp} {D : Addr} {us ys : List V} {f : Fm} {v : V} (e : H D = some (.lst us)) (h : Dh H v f.data) : Dh (upd H D (.lst ys)) v f.data := Dh.tups (tupK_upd e) _ _ (noL_data f) h
theorem dhAll_get {H : Hp} : ∀ (ts : List V) (fs : List Fm), ts.length = fs.length → (∀ (i : Nat) (x : V) (f : Fm), ts[i]? = some x → fs[i]? = some f → Dh H x f.data) → DhAll H ts (dataL fs)
  | [], [], _, _ => .nil
  | x :: ts, f :: fs, hl, h => .cons (h 0 x f rfl rfl) (dhAll_get ts fs (by simpa using hl) fun i x f e1 e2 => h (i + 1) x f (by simpa using e1) (by simpa using e2))
theorem paired_range {F : V → Nat → Prop} {ts : List V} {n : Nat} (p : Paired F ts (List.range n)) : ts.length = n ∧ ∀ i x, ts[i]? = some x → F x i := by
  have hl : ts.length = n := by have := p.length; rwa [List.length_range] at this
  refine ⟨hl, fun i x e => ?_⟩
  have hi := (List.getElem?_eq_some_iff.mp e).1
  have key : ∀ {ts : List V} {l : List Nat}, Paired F ts l → ∀ {i : Nat} {x : V}, ts[i]? = some x → ∃ y, l[i]? = some y ∧ F x y := by
    intro ts l p
    induction p with
    | nil => intro i x e; simp at e
    | cons f _ ih =>
      intro i x e
      cases i with
      | zero => exact ⟨_, rfl, by rw [← Option.some.inj (show some _ = some x by simpa using e)]; exact f⟩
      | succ i => obtain ⟨y, h1, h2⟩ := ih (show _ = some x by simpa using e); exact ⟨y, by simpa using h1, h2⟩
  obtain ⟨y, ey, h⟩ := key p e
  rw [List.getElem?_range (by omega)] at ey
  cases ey
  exact h
def spTurn (n : Nat) : Sp := fun vs H Q _ => ∃ (v : V) (f : Fm), vs = [v] ∧ Dh H v f.data ∧ f.dep ≤ n ∧ f.eds = [] ∧ f.cnt ≤ 3900 ∧ ∀ u H1, Same H H1 → Dh H1 u f.neg.data → Q u H1
def spTurned (C : Addr) : Sp := fun vs H Q E => ∃ (v : V) (d : PyData), vs = [v] ∧ Arg H v d ∧ (formL 40 [d] = false → RaiN E C H) ∧
  (formL 40 [d] = true → ∃ f : Fm, d = f.data ∧ f.cnt ≤ 1900 ∧ f.dep ≤ 40 ∧ f.ok = true ∧ (f.eds ≠ [] → RaiN E C H) ∧ (f.eds = [] → (40 < f.neg.dep → RaiN E C H) ∧ (f.neg.dep ≤ 40 → ∀ u H1, Same H H1 → Dh H1 u f.neg.data → Q u H1)))
section
variable {P : Program} {w : World} {K : PySem.W.Frag} {mg : Str → Option Value} {base : Heap}
theorem ok_turn (D : Pr P K mg) (k : Nat) : ∀ n, FnOk P w K mg base CX0 (k + n) D._turned.f D._turned.fd ["formula"] (spTurn n) := by
  intro n
  induction n with
  | zero =>
    refine ⟨fun vs H Q E h => ?_, fun A outer s H args us vs Q E hr he hb hv h => ?_⟩
    · obtain ⟨v, f, rfl, _⟩ := h
      rfl
    · obtain ⟨v, f, rfl, _, hd, _⟩ := h
      have := f.dep_pos
      omega
  | succ n ih =>
  have G__turned : FnOk P w K mg base CX0 (k + n) D._turned.f D._turned.fd ["formula"] (spTurn n) := ih
  refine D._turned.F.ok sc__turned (fun vs H Q E h => ?_) (fun cdv A outer s H vs Q E hr h => ?_)
  · obtain ⟨v, f, rfl, _⟩ := h
    rfl
  · obtain ⟨v, f, rfl, hd, hn, he, hc, q⟩ := h
    have hr : Room (k + n) _ := hr
    have s2 : (2 : Nat) ≤ sizeLine := by decide
    refine ⟨_, (pss_cons (ps_asg (pv 0) (pg_tup rfl (pgs_cons (pg_name (i := 1) sc__turned.nd rfl (.inl rfl)) (pgs_cons (pg_name (i := 2) sc__turned.nd rfl (.inl rfl)) pgs_nil))))
      (pss_cons (ps_if (pt_cmpR op_eq (pv 1) pe_str (nomark _)) (pss_one (ps_ret (pe_tup (pa_cons pe_str (pa_cons (pe_op op_sub pe_int (pv 2)) pa_nil))))) pss_nil)
      (pss_cons (ps_if (pt_cmpR op_eq (pv 1) pe_str (nomark _)) (pss_one (ps_ret (pe_tup (pa_cons pe_str (pa_cons (pv 0) pa_nil))))) pss_nil)
      (pss_cons (ps_if (pt_cmpR op_eq (pv 1) pe_str (nomark _)) (pss_one (ps_ret (pe_tup (pa_cons pe_str (pa_cons (pe_call G__turned (hr.mono (by omega)) (by rfl) D._turned.g D._turned.F.kp D._turned.b .nil pass0 (pa_cons (pv 2) pa_nil)) pa_nil))))) pss_nil)
      (pss_one (ps_ret (pe_tup (pa_cons (pe_ifExp (pt_cmpR op_eq (pv 1) pe_str (nomark _)) pe_str pe_str) (pa_cons (pe_callTy call_tuple_of (by rfl) D.B.tuple (by decide +kernel) (pa_cons (pe_lc (own := [("part", 3)]) (g := (gName 3)) (tt := tYes) rfl sc__turned.nd (pi_tup (pv 2)) (blkOk_by (own := [("part", 3)]) (N := n__turned) (sc := defScope s__turned) (by decide +kernel)) (fun _ _ _ _ _ => (pg_name (i := 3) sc__turned.nd rfl (.inl rfl))) (fun _ _ _ _ _ => pts_nil) (fun _ _ _ _ _ => (pe_call G__turned (hr.mono (by omega)) (by rfl) D._turned.g D._turned.F.kp D._turned.b .nil pass0 (pa_cons (pv 3) pa_nil)))) pa_nil)) pa_nil))))))))), ?_⟩
    obtain ⟨a, rfl, cs⟩ := subs_dh hd
    rcases cs with ⟨b, rfl, e⟩ | ⟨x, rfl, e⟩ | ⟨r, x, rfl, e⟩ | ⟨f1, x2, rfl, e, h2⟩ | ⟨w2, fs, a2, zs, rfl, e, e2, hz⟩
    · refine ⟨.ref a, rfl, a, _, rfl, sqT e, rfl, .str "bit", _, rfl, .int (if b then 1 else 0), [], rfl, rfl, ?_⟩
      refine ⟨.str "bit", rfl, rfl, _, rfl, ?_⟩
      rw [strEq, decide_eq_true rfl]
      refine iteT ⟨.int (if b then 1 else 0), rfl, 1, _, rfl, rfl, s2, fun p np => q _ _ (same_upd np) ?_⟩
      refine .tup upd_same (.cons (.str _) (.cons ?_ .nil))
      cases b <;> exact .int _
    · refine ⟨.ref a, rfl, a, _, rfl, sqT e, rfl, .str "name", _, rfl, .str x, [], rfl, rfl, ?_⟩
      refine ⟨.str "name", rfl, rfl, _, rfl, ?_⟩
      rw [strEq, decide_eq_false (by simp)]
      refine iteF ⟨.str "name", rfl, rfl, _, rfl, ?_⟩
      rw [strEq, decide_eq_true rfl]
      refine iteT ⟨.ref a, rfl, s2, fun p np => q _ _ (same_upd np) ?_⟩
      exact .tup upd_same (.cons (.str _) (.cons (hd.same (same_upd np)) .nil))
    · simp [Fm.eds, Fm.lvs, edOf] at he
    · refine ⟨.ref a, rfl, a, _, rfl, sqT e, rfl, .str "not", _, rfl, x2, [], rfl, rfl, ?_⟩
      refine ⟨.str "not", rfl, rfl, _, rfl, ?_⟩
      rw [strEq, decide_eq_false (by simp)]
      refine iteF ⟨.str "not", rfl, rfl, _, rfl, ?_⟩
      rw [strEq, decide_eq_false (by simp)]
      refine iteF ⟨.str "not", rfl, rfl, _, rfl, ?_⟩
      rw [strEq, decide_eq_true rfl]
      refine iteT ⟨x2, rfl, x2, f1, rfl, h2, by simp only [Fm.dep] at hn; omega, he, by simp only [Fm.cnt] at hc; omega, fun u H1 s1 hu => ⟨s2, fun p np => q _ _ (s1.trans (same_upd np)) ?_⟩⟩
      exact .tup upd_same (.cons (.str _) (.cons (hu.same (same_upd np)) .nil))
    · have zl : zs.length = fs.length := by have := hz.length; rwa [List.length_map] at this
      have hdep : ∀ f ∈ fs, f.dep ≤ n := depL_le.mp (by simp only [Fm.dep] at hn; omega)
      have heds := eds_nil he
      have hcl : cntL fs < 3900 := by simp only [Fm.cnt] at hc; omega
      have lf : fs.length ≤ cntL fs := by
        clear q hc hn hd he e e2 hz zl hdep heds hcl
        induction fs with
        | nil => simp
        | cons a r ih => have := a.cnt_pos; simp only [List.length_cons, cntL]; omega
      refine ⟨.ref a, rfl, a, _, rfl, sqT e, rfl, .str (jK w2), _, rfl, .ref a2, [], rfl, rfl, ?_⟩
      refine ⟨.str (jK w2), rfl, rfl, _, rfl, ?_⟩
      rw [strEq, decide_eq_false (by cases w2 <;> simp [jK])]
      refine iteF ⟨.str (jK w2), rfl, rfl, _, rfl, ?_⟩
      rw [strEq, decide_eq_false (by cases w2 <;> simp [jK])]
      refine iteF ⟨.str (jK w2), rfl, rfl, _, rfl, ?_⟩
      rw [strEq, decide_eq_false (by cases w2 <;> simp [jK])]
      cases w2
      case' false =>
        refine iteF ⟨.str (jK false), rfl, rfl, _, rfl, ?_⟩
        rw [strEq, decide_eq_true (show jK false = Str.ofString "and" from rfl)]
        refine iteT ?_
      case' true =>
        refine iteF ⟨.str (jK true), rfl, rfl, _, rfl, ?_⟩
        rw [strEq, decide_eq_false (by simp [jK])]
        refine iteF ?_
      all_goals
        refine ⟨.ref a2, rfl, a2, rfl, ⟨_, sqT e2⟩, lcTup (vs := [3]) (fun i H' x => ∃ f, fs[i]? = some f ∧ Dh H' x f.neg.data) (fun i H' H'' x s ⟨f, ef, h⟩ => ⟨f, ef, h.same s⟩) (fun D i H' x us ys e _ ⟨f, ef, h⟩ => ⟨f, ef, dh_upd e h⟩) e2 (by omega) ?_ ?_⟩
        · intro Dl i x H2 Qk Qn hx s2' nD eD hk
          obtain ⟨f1, ef, hf⟩ := dhAll_at hz hx
          have mf := List.mem_of_getElem? ef
          refine ⟨by rw [wipe1, wipe2], ?_⟩
          delta tYes
          exact iteT ⟨x, rfl, x, f1, rfl, hf.same s2', hdep f1 mf, heds f1 mf, by have := cntL_mem mf; omega, fun u H3 s3 hu => hk u H3 ⟨f1, ef, hu⟩ s3⟩
        · intro Dl H2 ts nD s2' eD pr
          obtain ⟨lt, at_⟩ := paired_range pr
          refine ⟨Dl, ts, rfl, .inl ⟨sqL eD, fun p nl => ?_⟩⟩
          have s3 := same_upd nl (o := .tup ts)
          have ep : upd H2 p (.tup ts) p = some (.tup ts) := upd_same
          refine ⟨s2, fun p2 np => q _ _ (s2'.trans (s3.trans (same_upd np))) ?_⟩
          refine .tup upd_same (.cons (.str _) (.cons (.tup (same_upd np _ _ ep) ?_) .nil))
          refine dhAll_get ts (negL fs) (by rw [negL_map, List.length_map]; omega) fun i x f e1 e2 => ?_
          obtain ⟨f1, ef, h1⟩ := at_ i x e1
          rw [negL_map, List.getElem?_map, ef] at e2
          cases e2
          exact h1.same (s3.trans (same_upd np))
theorem ok_turned {k : Nat} (D : Pr P K mg) : FnOk P w K mg base (CX P w) (k + 42) D.turned.f D.turned.fd ["formula"] (spTurned D.BadFormula.C) := by
  have G_check_plain : FnOk P w K mg base (CX P w) (k + 7) D.check_plain.f D.check_plain.fd ["formula"] (spPlainC D.BadFormula.C) := ok_checkp D
  have G_check_formula : FnOk P w K mg base (CX P w) (k + 5) D.check_formula.f D.check_formula.fd ["formula"] (spCheck D.BadFormula.C) := ok_check D
  have G__turned : FnOk P w K mg base CX0 (k + 40) D._turned.f D._turned.fd ["formula"] (spTurn 40) := ok_turn D k 40
  refine D.turned.F.okX sc_turned (fun vs H Q E h => ?_) (fun cdv A outer s H vs Q E hr h => ?_)
  · obtain ⟨v, d, rfl, _⟩ := h
    rfl
  · obtain ⟨v, d, rfl, ad, q1, q2⟩ := h
    refine ⟨_, (pss_cons (ps_expr (pe_call G_check_plain (hr.mono (by omega)) (by rfl) D.check_plain.g D.check_plain.F.kp D.check_plain.b .nil (passes_call (takes_of rfl rfl rfl rfl) (fun _ _ _ _ h => h)) (pa_cons (pv 0) pa_nil)))
      (pss_cons (ps_set (i := 1) sc_turned.nd rfl (.inl rfl) (pe_call G__turned (hr.mono (by omega)) (by rfl) D._turned.g D._turned.F.kp D._turned.b .nil pass0 (pa_cons (pv 0) pa_nil)))
      (pss_cons (ps_expr (pe_call G_check_formula (hr.mono (by omega)) (by rfl) D.check_formula.g D.check_formula.F.kp D.check_formula.b .nil (passes_call (takes_of rfl rfl rfl rfl) (fun _ _ _ _ h => h)) (pa_cons (pv 1) pa_nil)))
      (pss_one (ps_ret (pv 1)))))), ?_⟩
    refine ⟨v, rfl, v, d, rfl, ad, q1, fun e => ?_⟩
    obtain ⟨f, rfl, hc, hd, ok, r1, r2⟩ := q2 e
    refine ⟨f, rfl, by omega, r1, fun he H1 s1 => ?_⟩
    obtain ⟨n1, n2⟩ := r2 he
    obtain ⟨f1, f2, f3, f4, f5⟩ := neg_facts f
    have nok : f.neg.ok = true := f3.trans ok
    refine ⟨v, rfl, v, f, rfl, ad.dh.same s1, hd, he, by omega, fun u H2 s2 hu => ?_⟩
    have ff := form_data f.neg nok
    refine ⟨u, rfl, u, f.neg.data, rfl, arg_data hu nok (by omega), fun e H3 s3 => ⟨u, rfl, ?_⟩, fun e => (n1 ?_).same (s1.trans s2)⟩
    · rw [ff] at e
      exact n2 (of_decide_eq_true e) u H3 (s1.trans (s2.trans s3)) (hu.same s3)
    · rw [ff] at e
      have := of_decide_eq_false e
      omega
end
end K7

set_option Elab.async false
set_option linter.all false
set_option maxRecDepth 100000
set_option maxHeartbeats 4000000
namespace K7
open PySem PySem.Spec PyProof.Rows L2 GX NdefX
/-- what _joined is asked of the formulas xs -/
def JoinAsk (C : Addr) (w b : Bool) (xs : List V) (H : Hp) (Q : VK) (E : XK) : Prop := xs.length ≤ 5 ∧
  ((∃ ds : List PyData, DhAll H xs ds ∧ (∀ d ∈ ds, domL 40 [d] = true ∧ wtD d ≤ 100000 ∧ strD d = true) ∧ (∃ d ∈ ds, formL 40 [d] = false) ∧ RaiN E C H) ∨
    ∃ fs : List Fm, DhAll H xs (fs.map Fm.data) ∧ (∀ f ∈ fs, f.ok = true ∧ f.dep ≤ 40) ∧ cntL fs ≤ 2000 ∧
      ((fs = [] ∧ ∀ u H1, Same H H1 → Dh H1 u (Fm.bit b).data → Q u H1) ∨ (∃ x, xs = [x] ∧ ∀ H1, Same H H1 → Q x H1) ∨
        (2 ≤ fs.length ∧ (depL fs < 40 → ∀ u H1, Same H H1 → Dh H1 u (Fm.joint w fs).data → Q u H1) ∧ (40 ≤ depL fs → RaiN E C H))))
theorem JoinAsk.same {C : Addr} {w b : Bool} {xs : List V} {H H' : Hp} {Q : VK} {E : XK} (h : JoinAsk C w b xs H Q E) (s : Same H H') : JoinAsk C w b xs H' Q E := by
  obtain ⟨hl, h⟩ := h
  refine ⟨hl, ?_⟩
  rcases h with ⟨ds, h1, h2, h3, h4⟩ | ⟨fs, h1, h2, h3, h4⟩
  · exact .inl ⟨ds, h1.same s, h2, h3, h4.same s⟩
  · refine .inr ⟨fs, h1.same s, h2, h3, ?_⟩
    rcases h4 with ⟨e, q⟩ | ⟨x, e, q⟩ | ⟨l, q1, q2⟩
    · exact .inl ⟨e, fun u H1 s1 => q u H1 (s.trans s1)⟩
    · exact .inr (.inl ⟨x, e, fun H1 s1 => q H1 (s.trans s1)⟩)
    · exact .inr (.inr ⟨l, fun e u H1 s1 => q1 e u H1 (s.trans s1), fun e => (q2 e).same s⟩)
def spJoined (C : Addr) : Sp := fun vs H Q E => ∃ (w b : Bool) (a : Addr) (xs : List V), vs = [.str (jK w), .ref a, .int (b.toNat : Nat)] ∧ H a = some (.tup xs) ∧ JoinAsk C w b xs H Q E
def spStar (C : Addr) (w b : Bool) : Sp := fun vs H Q E => JoinAsk C w b vs H Q E
section
variable {P : Program} {w : World} {K : PySem.W.Frag} {mg : Str → Option Value} {base : Heap}
theorem ok_joined {k : Nat} (D : Pr P K mg) : FnOk P w K mg base (CX P w) (k + 6) D._joined.f D._joined.fd ["joint", "formulas", "bit"] (spJoined D.BadFormula.C) := by
  have G_check_formula : FnOk P w K mg base (CX P w) (k + 5) D.check_formula.f D.check_formula.fd ["formula"] (spCheck D.BadFormula.C) := ok_check D
  refine D._joined.F.okX sc__joined (fun vs H Q E h => ?_) (fun cdv A outer s H vs Q E hr h => ?_)
  · obtain ⟨w, b, a, xs, rfl, _⟩ := h
    rfl
  · obtain ⟨w, b, a, xs, rfl, ea, hl, h⟩ := h
    have s2 : (2 : Nat) ≤ sizeLine := by decide
    refine ⟨_, (pss_cons (ps_for (by passes_own) rfl (pi_tup (pv 1)) (pg_name (i := 3) sc__joined.nd rfl (.inl rfl)) (pss_one (ps_expr (pe_call G_check_formula (hr.mono (by omega)) (by rfl) D.check_formula.g D.check_formula.F.kp D.check_formula.b .nil (passes_call (takes_of rfl rfl rfl rfl) (fun _ _ _ _ h => h)) (pa_cons (pv 3) pa_nil)))))
      (pss_cons (ps_if (pt_not (pt_truth (pv 1) (fun _ => rfl))) (pss_one (ps_ret (pe_tup (pa_cons pe_str (pa_cons (pv 2) pa_nil))))) pss_nil)
      (pss_cons (ps_if (pt_cmpR op_eq (pe_callB call_len (by rfl) D.B.len PySem.boot_len (pa_cons (pv 1) pa_nil)) pe_int (nomark _)) (pss_one (ps_ret (pe_ix (r := rIxT K) ix_tup (pv 1) pe_int (fun _ _ => rfl)))) pss_nil)
      (pss_cons (ps_set (i := 4) sc__joined.nd rfl (.inl rfl) (pe_tup (pa_cons (pv 0) (pa_cons (pe_callTy call_tuple_of (by rfl) D.B.tuple (by decide +kernel) (pa_cons (pv 1) pa_nil)) pa_nil))))
      (pss_cons (ps_expr (pe_call G_check_formula (hr.mono (by omega)) (by rfl) D.check_formula.g D.check_formula.F.kp D.check_formula.b .nil (passes_call (takes_of rfl rfl rfl rfl) (fun _ _ _ _ h => h)) (pa_cons (pv 4) pa_nil)))
      (pss_one (ps_ret (pv 4)))))))), ?_⟩
    obtain ⟨ds, hds, hok, h⟩ : ∃ ds : List PyData, DhAll H xs ds ∧ (∀ d ∈ ds, domL 40 [d] = true ∧ wtD d ≤ 100000 ∧ strD d = true) ∧ (((∃ d ∈ ds, formL 40 [d] = false) ∧ RaiN E D.BadFormula.C H) ∨ ∃ fs : List Fm, ds = fs.map Fm.data ∧ (∀ f ∈ fs, f.ok = true ∧ f.dep ≤ 40) ∧ cntL fs ≤ 2000 ∧
      ((fs = [] ∧ ∀ u H1, Same H H1 → Dh H1 u (Fm.bit b).data → Q u H1) ∨ (∃ x, xs = [x] ∧ ∀ H1, Same H H1 → Q x H1) ∨
        (2 ≤ fs.length ∧ (depL fs < 40 → ∀ u H1, Same H H1 → Dh H1 u (Fm.joint w fs).data → Q u H1) ∧ (40 ≤ depL fs → RaiN E D.BadFormula.C H)))) := by
      rcases h with ⟨ds, h1, h2, h3, h4⟩ | ⟨fs, h1, h2, h3, h4⟩
      · exact ⟨ds, h1, h2, .inl ⟨h3, h4⟩⟩
      · refine ⟨_, h1, fun d md => ?_, .inr ⟨fs, rfl, h2, h3, h4⟩⟩
        obtain ⟨f, mf, rfl⟩ := List.mem_map.mp md
        have := wt_data f
        have := cntL_mem mf
        exact ⟨domL_data 40 [f], by omega, str_data f (h2 f mf).1⟩
    have hr9 : (∃ d ∈ ds, formL 40 [d] = false) → RaiN E D.BadFormula.C H := fun hb => by
      rcases h with ⟨_, h4⟩ | ⟨fs, rfl, h2, _⟩
      · exact h4
      · obtain ⟨d, md, fd⟩ := hb
        obtain ⟨f, mf, rfl⟩ := List.mem_map.mp md
        have ff := form_data f (h2 f mf).1
        rw [decide_eq_true (h2 f mf).2, fd] at ff
        cases ff
    refine ⟨.ref a, rfl, a, rfl, ⟨_, sqT ea⟩, forTt (fun i σ H' => (∃ c3, σ = [some (.str (jK w)), some (.ref a), some (.int (b.toNat : Nat)), c3, none]) ∧ Same H H' ∧ ∀ (j : Nat) (d : PyData), j < i → ds[j]? = some d → formL 40 [d] = true) ea ⟨⟨_, rfl⟩, Same.refl _, fun j d h => absurd h (by omega)⟩ (fun i σ H' o ⟨_, s3, _⟩ e => s3 _ _ e) ?_ ?_⟩
    · rintro i x σ H3 hx ⟨⟨c3, rfl⟩, s3, hp⟩
      obtain ⟨d, ed, hd⟩ := DhAll.get _ hds hx
      obtain ⟨g1, g2, g3⟩ := hok d (List.mem_of_getElem? ed)
      refine ⟨x, rfl, x, d, rfl, ⟨hd.same s3, g1, g2, g3⟩, fun e H4 s4 => ⟨⟨_, rfl⟩, s3.trans s4, fun j d' hj ed' => ?_⟩, fun e => (hr9 ⟨d, List.mem_of_getElem? ed, e⟩).same s3⟩
      rcases Nat.lt_or_ge j i with hj' | hj'
      · exact hp j d' hj' ed'
      · obtain rfl : j = i := by omega
        rw [ed] at ed'; cases ed'; exact e
    · rintro σ H3 ⟨⟨c3, rfl⟩, s3, hp⟩
      rcases h with ⟨⟨d, md, fd⟩, h4⟩ | ⟨fs, rfl, h2, h3, h4⟩
      · obtain ⟨j, ej⟩ := List.mem_iff_getElem?.mp md
        have := hp j d (by have := hds.length; have := (List.getElem?_eq_some_iff.mp ej).1; omega) ej
        rw [fd] at this; cases this
      · have lx : xs.length = fs.length := by have := hds.length; rwa [List.length_map] at this
        have ea3 := s3 _ _ ea
        refine ⟨.ref a, rfl, !xs.isEmpty, .inr (.inl ⟨xs, sqT ea3, rfl⟩), ?_⟩
        rcases h4 with ⟨rfl, q⟩ | ⟨x, rfl, q⟩ | ⟨l2, q1, q2⟩
        · obtain rfl : xs = [] := List.eq_nil_of_length_eq_zero lx
          refine iteT ⟨_, rfl, s2, fun p np => q _ _ (s3.trans (same_upd np)) ?_⟩
          refine .tup upd_same (.cons (.str _) (.cons ?_ .nil))
          cases b <;> exact .int _
        · refine iteF ⟨.ref a, rfl, .ref a, 1, rfl, .inr ⟨_, sqT ea3, rfl⟩, rfl, _, rfl, ?_⟩
          refine iteT ⟨.ref a, rfl, a, [x], 0, x, rfl, rfl, sqT ea3, rfl, q H3 s3⟩
        · rw [show (!xs.isEmpty) = true by cases xs with | nil => simp at lx; omega | cons _ _ => rfl]
          refine iteF ⟨.ref a, rfl, .ref a, (xs.length : Nat), rfl, .inr ⟨_, sqT ea3, rfl⟩, rfl, _, rfl, ?_⟩
          rw [show decide (V.int (xs.length : Nat) = V.int 1) = decide (xs.length = 1) from intEq _ 1, decide_eq_false (by omega)]
          refine iteF ⟨.str (jK w), rfl, .ref a, rfl, a, xs, rfl, .inr ⟨sqT ea3, s2, fun p np => ?_⟩⟩
          have sH := s3.trans (same_upd np (o := .tup [.str (jK w), .ref a]))
          have du : Dh (upd H3 p (.tup [.str (jK w), .ref a])) (.ref p) (Fm.joint w fs).data := by
            refine .tup upd_same (.cons (.str _) (.cons (.tup (same_upd np _ _ ea3) ?_) .nil))
            rw [dataL_map]; exact hds.same sH
          have okj : (Fm.joint w fs).ok = true := by
            simp only [Fm.ok, Bool.and_eq_true, decide_eq_true_eq]
            exact ⟨l2, okL_all.mpr fun f m => (h2 f m).1⟩
          have ff := form_data _ okj
          refine ⟨.ref p, rfl, .ref p, _, rfl, arg_data du okj (by simp only [Fm.cnt]; omega), fun e H4 s4 => ⟨.ref p, rfl, ?_⟩, fun e => (q2 ?_).same sH⟩
          · rw [ff] at e
            have := of_decide_eq_true e
            simp only [Fm.dep] at this
            exact q1 (by omega) _ _ (sH.trans s4) (du.same s4)
          · rw [ff] at e
            have := of_decide_eq_false e
            simp only [Fm.dep] at this
            omega
theorem ok_allof {k : Nat} (D : Pr P K mg) : FnR P w K mg base (CX P w) (k + 7) D.all_of.f (spStar D.BadFormula.C false true) := by
  have G__joined : FnOk P w K mg base (CX P w) (k + 6) D._joined.f D._joined.fd ["joint", "formulas", "bit"] (spJoined D.BadFormula.C) := ok_joined D
  have F := star_ok (P := P) (w := w) (mg := mg) (base := base) (k := k + 6) (CX := CX P w) (sp := fun vs H Q E => ∃ a xs, vs = [V.ref a] ∧ H a = some (.tup xs) ∧ JoinAsk D.BadFormula.C false true xs H Q E) D.all_of.F D.all_of.b sc_all_of StX.cxUp (fun cdv A outer s H vs Q E hr h => by
    obtain ⟨a, xs, rfl, ea, h⟩ := h
    refine ⟨_, (pss_one (ps_ret (pe_call G__joined (hr.mono (by omega)) (by rfl) D._joined.g D._joined.F.kp D._joined.b .nil (passes_call (takes_of rfl rfl rfl rfl) (fun _ _ _ _ h => h)) (pa_cons pe_str (pa_cons (pv 0) (pa_cons pe_int pa_nil)))))), ?_⟩
    exact ⟨_, rfl, false, true, a, xs, rfl, ea, h⟩)
  exact fun A outer s H us vs Q E hr e0 r h => F A outer s H us vs Q E hr e0 r ⟨by have : vs.length ≤ 5 := h.1; have : sizeLine = 16777216 := sizeLine_eq; omega, fun p np => ⟨p, vs, rfl, upd_same, h.same (same_upd np)⟩⟩
theorem ok_anyof {k : Nat} (D : Pr P K mg) : FnR P w K mg base (CX P w) (k + 7) D.any_of.f (spStar D.BadFormula.C true false) := by
  have G__joined : FnOk P w K mg base (CX P w) (k + 6) D._joined.f D._joined.fd ["joint", "formulas", "bit"] (spJoined D.BadFormula.C) := ok_joined D
  have F := star_ok (P := P) (w := w) (mg := mg) (base := base) (k := k + 6) (CX := CX P w) (sp := fun vs H Q E => ∃ a xs, vs = [V.ref a] ∧ H a = some (.tup xs) ∧ JoinAsk D.BadFormula.C true false xs H Q E) D.any_of.F D.any_of.b sc_any_of StX.cxUp (fun cdv A outer s H vs Q E hr h => by
    obtain ⟨a, xs, rfl, ea, h⟩ := h
    refine ⟨_, (pss_one (ps_ret (pe_call G__joined (hr.mono (by omega)) (by rfl) D._joined.g D._joined.F.kp D._joined.b .nil (passes_call (takes_of rfl rfl rfl rfl) (fun _ _ _ _ h => h)) (pa_cons pe_str (pa_cons (pv 0) (pa_cons pe_int pa_nil)))))), ?_⟩
    exact ⟨_, rfl, true, false, a, xs, rfl, ea, h⟩)
  exact fun A outer s H us vs Q E hr e0 r h => F A outer s H us vs Q E hr e0 r ⟨by have : vs.length ≤ 5 := h.1; have : sizeLine = 16777216 := sizeLine_eq; omega, fun p np => ⟨p, vs, rfl, upd_same, h.same (same_upd np)⟩⟩
end
end K7

set_option Elab.async false
set_option linter.all false
set_option maxRecDepth 100000
set_option maxHeartbeats 4000000
/-! y = {k: v for ..}, y a local -/
namespace GX
open PySem PySem.Spec PyProof.Rows L2
section
variable {X : Cx}
theorem sw_trueD {kx vx : Expr} {gs : List Comprehension} {scope : Scope} {pos py : Pos} {y : Str} {l : Nat} {env : Env} (hk : env.scope.kind = .function) (hy : env.scope.names.lookup y = some .local) (hl : (py.line == pos.line) = true)
    (ha : (scope.names.any fun (n, k) => n == y && (k == .local || k == .cell)) = false) : swapsWith (.DictComp kx vx gs scope pos) (some (.Name y py)) l env = pure true := by
  have ky : env.kindOf y = some .local := hy
  have hb : env.blockKind = .function := by unfold Env.blockKind; rw [hk]; rfl
  unfold swapsWith
  simp only [hb, ky, ha, Expr.pos, hl]
  rfl
theorem ps_setDc {i : Nat} {y : Str} {py : Pos} {kx vx tg iter : Expr} {ifs : List Expr} {scope : Scope} {own : List (Str × Nat)} {pos spos : Pos} {wi : TI} {g : TG} {tt : TT} {tk tv : TE} (hc : X.calm = true) (hN : X.N.Nodup) (hy : X.N[i]? = some y) (hyl : X.env.scope.names.lookup y = some .local)
    (hsw : swapsWith (.DictComp kx vx [⟨tg, iter, ifs, 0⟩] scope pos) (some (.Name y py)) spos.line X.env = pure true) (hi : PI X tg iter wi) (ok : BlkOk X.N X.env.scope scope own)
    (hg : ∀ (s : Shared) (H : Hp) (C : Addr) (cl : List (Str × Addr)) (fp : List Addr), PG (X.blk s H scope (compEnvC scope cl C X.env) fp) tg g) (ht : ∀ (s : Shared) (H : Hp) (C : Addr) (cl : List (Str × Addr)) (fp : List Addr), PTs (X.blk s H scope (compEnvC scope cl C X.env) fp) ifs tt)
    (hk : ∀ (s : Shared) (H : Hp) (C : Addr) (cl : List (Str × Addr)) (fp : List Addr), PE (X.blk s H scope (compEnvC scope cl C X.env) fp) kx tk)
    (he : ∀ (s : Shared) (H : Hp) (C : Addr) (cl : List (Str × Addr)) (fp : List Addr), PE (X.blk s H scope (compEnvC scope cl C X.env) fp) vx tv) (hs : ∀ x, foldedSetIterable iter X.env x = pure x := by intro _; rfl) :
    PS X (.Assign [.Name y py] (.DictComp kx vx [⟨tg, iter, ifs, 0⟩] scope pos) spos) (tAsg (tDc wi g tt tk tv (own.map (·.2))) (gName i)) := by
  refine ⟨fun pins s σ H D I h => ?_⟩
  rw [exec_Assign_Name_used _ _ _ _ hsw]
  refine wpAny_bind (wpAny_standAt (wpAny_bind ?_))
  show wpAny _ X.A (do let _ ← comprehension (.DictComp kx vx [⟨tg, iter, ifs, 0⟩] scope pos) scope X.env (firstIterPos [⟨tg, iter, ifs, 0⟩] pos) newDict false (eval iter X.env) (some (assign (.Name y py) X.env))) _ _ s
  have h : tDc wi g tt tk tv (own.map (·.2)) σ H (fun x H1 => gName i x σ H1 D.nx) := h
  refine wpAny_bind (thn (dc_core (Qf := fun _ s' => SP X pins D .next s') hc hN I hi ok hg ht hk he hs h fun L C s' m H' I' q hn f => ?_) fun _ s' hq => wpAny_pure (wpAny_pure hq))
  show wpAny _ _ (assign (.Name y py) X.env (.ref L)) _ _ _
  refine wpAny_assign_Name (store_ok2 (v := V.ref L) I' hN hy (.inl hyl) rfl (fun s2 I2 ⟨a, sb, ha⟩ => ?_) (.inr hyl))
  obtain ⟨f0, f1, f2, f3, f4, f5⟩ := f
  have haC : C ≠ a := by
    rcases ha with z | z
    · rw [z]; exact f1
    · exact fun e => f4 y a z e.symm
  refine ⟨m, hn.sameBut sb haC, fun h3 sb3 => ?_⟩
  exact ⟨_, H', I2.turned (t' := s2.toks) (fun b o hb e => (sb3.2 b hb).trans e) f0 f1 f3 f4 f5, q⟩
end
end GX

set_option Elab.async false
set_option linter.all false
set_option maxRecDepth 100000
set_option maxHeartbeats 4000000
namespace K7
open PySem PySem.Spec PyProof.Rows L2 GX NdefX
def spColumn : Sp := fun vs H Q _ => ∃ (v : V) (oa : Addr) (f : Fm) (ys : List Str), vs = [v, .ref oa] ∧ Dh H v f.data ∧ f.dep ≤ 40 ∧ f.eds = [] ∧ H oa = some (.tup (txs ys)) ∧ ys.Nodup ∧ ys.length ≤ 11 ∧ (∀ x ∈ f.nms, x ∈ ys) ∧
  ∀ (c : Nat) H1, Same H H1 → Col (2 ^ ys.length) c (fun r => f.ev (rowV ys r)) → Q (.int (c : Nat)) H1
section
variable {P : Program} {w : World} {K : PySem.W.Frag} {mg : Str → Option Value} {base : Heap}
theorem ok_column {k : Nat} (D : Pr P K mg) : FnOk P w K mg base CX0 (k + 41) D._column.f D._column.fd ["formula", "order"] spColumn := by
  have G_columns_of : FnOk P w K mg base CX0 (k + 1) D.columns_of.f D.columns_of.fd ["many"] spCols := ok_cols D
  have G_worked : FnOk P w K mg base CX0 (k + 40) D.worked.f D.worked.fd ["formula", "bits", "seen", "full"] (spWorked 40) := ok_worked D k 40
  refine D._column.F.ok sc__column (fun vs H Q E h => ?_) (fun cdv A outer s H vs Q E hr h => ?_)
  · obtain ⟨v, oa, f, ys, rfl, _⟩ := h
    rfl
  · obtain ⟨v, oa, f, ys, rfl, hd, hdep, he, eo, nd, hl, all, q⟩ := h
    have es : sizeLine = 16777216 := sizeLine_eq
    have tl : (txs ys).length = ys.length := List.length_map ..
    refine ⟨_, (pss_cons (ps_setDc (i := 2) (own := [("name", 3), ("column", 4)]) (g := (gTup K 2 (gCons (gName 3) (gCons (gName 4) gNil)))) (tt := tYes) rfl sc__column.nd rfl rfl (sw_trueD rfl rfl rfl (by decide +kernel)) (pi_zipM (by rfl) D.B.zip (pa_cons (pv 1) (pa_cons (pe_call G_columns_of (hr.mono (by omega)) (by rfl) D.columns_of.g D.columns_of.F.kp D.columns_of.b .nil pass0 (pa_cons (pe_callB call_len (by rfl) D.B.len PySem.boot_len (pa_cons (pv 1) pa_nil)) pa_nil)) pa_nil))) (blkOk_by (own := [("name", 3), ("column", 4)]) (N := n__column) (sc := defScope s__column) (by decide +kernel)) (fun _ _ _ _ _ => (pg_tup rfl (pgs_cons (pg_name (i := 3) sc__column.nd rfl (.inl rfl)) (pgs_cons (pg_name (i := 4) sc__column.nd rfl (.inl rfl)) pgs_nil)))) (fun _ _ _ _ _ => pts_nil) (fun _ _ _ _ _ => (pv 3)) (fun _ _ _ _ _ => (pv 4)))
      (pss_one (ps_ret (pe_call G_worked (hr.mono (by omega)) (by rfl) D.worked.g D.worked.F.kp D.worked.b .nil pass0 (pa_cons (pv 0) (pa_cons (pv 2) (pa_cons pe_dnewK (pa_cons (pe_op (r := rSubN) op_SubN (pe_op (r := rShlN) op_ShlN pe_int (pe_op (r := rShlN) op_ShlN pe_int (pe_callB call_len (by rfl) D.B.len PySem.boot_len (pa_cons (pv 1) pa_nil)))) pe_int) pa_nil)))))))), ?_⟩
    refine ⟨.ref oa, rfl, .ref oa, rfl, .ref oa, (ys.length : Nat), rfl, .inr ⟨_, sqT eo, by rw [tl]⟩, ys.length, rfl, by omega, fun L cs H1 s1 nL eL lc hc => ⟨oa, L, txs ys, nts cs, rfl, sqT (s1 _ _ eo), sqL eL, fun B nB => ?_⟩⟩
    have nHB : H B = none := none_of_same s1 nB
    refine dc_zipM (K := K) (vs := [3, 4]) (by rw [tl, nts_len]; exact lc.symm) (fun i H' => Same H1 H' ∧ ∃ kvs, H' B = some (.dK kvs) ∧ kvs.length ≤ i ∧ ∀ (j : Nat) (y : Str) (c : Nat), j < i → ys[j]? = some y → cs[j]? = some c → valV kvs (.inr y) = some (.int (c : Nat))) ?_ ?_ ?_ ?_
    · exact ⟨same_upd nB, [], upd_same, Nat.le_refl _, fun j y c h => absurd h (by omega)⟩
    · exact fun i H' _ ⟨s2, _⟩ => ⟨sqT (s2 _ _ (s1 _ _ eo)), sqL (s2 _ _ eL)⟩
    · rintro i x y T H2 ex ey ⟨s2, kvs, eB, lk, hv⟩ nT
      obtain ⟨z, ez, rfl⟩ : ∃ z, ys[i]? = some z ∧ V.str z = x := by
        unfold txs at ex
        rw [List.getElem?_map] at ex
        cases h : ys[i]? with
        | none => rw [h] at ex; cases ex
        | some y => rw [h] at ex; exact ⟨y, rfl, Option.some.inj ex⟩
      obtain ⟨c, ec, rfl⟩ : ∃ c : Nat, cs[i]? = some c ∧ V.int (c : Nat) = y := by
        unfold nts at ey
        rw [List.getElem?_map] at ey
        cases h : cs[i]? with
        | none => rw [h] at ey; cases ey
        | some y => rw [h] at ey; exact ⟨y, rfl, Option.some.inj ey⟩
      have hi := (List.getElem?_eq_some_iff.mp ez).1
      refine ⟨T, _, rfl, sqT upd_same, rfl, .str z, _, rfl, .int (c : Nat), [], rfl, rfl, by rfl, ?_⟩
      delta tYes
      have nBT : B ≠ T := fun e => by rw [← e, eB] at nT; cases nT
      refine iteT ⟨.str z, rfl, .int (c : Nat), rfl, kvs, .inr z, rfl, by rw [upd_ne nBT]; exact eB, by omega, ?_, putK kvs (.inr z) (.int (c : Nat)), upd_same, ?_, ?_⟩
      · exact fun b o e => by rw [upd_ne (fun w => by rw [w, nB] at e; cases e)]; exact (same_upd nT) _ _ (s2 _ _ e)
      · have := len_put kvs (.inr z) (V.int (c : Nat)); omega
      · intro j y c' hj ey' ec'
        rw [valV_put]
        by_cases e : j = i
        · subst e
          rw [ez] at ey'; rw [ec] at ec'
          cases ey'; cases ec'
          rw [if_pos rfl]
        · rw [if_neg, hv j y c' (by omega) ey' ec']
          intro h
          have h := Sum.inr.inj h
          subst h
          exact e ((idx_get nd ey').symm.trans (idx_get nd ez))
    · rintro H2 ⟨s2, kvs, eB, lk, hv⟩
      rw [tl] at lk hv
      have sH := s1.trans s2
      have pn : 2 ^ ys.length ≤ 2048 := Nat.le_trans (Nat.pow_le_pow_right (by decide) hl) (by decide)
      have p2 := Nat.two_pow_pos (2 ^ ys.length)
      refine ⟨v, rfl, .ref B, rfl, fun Z nZ => ⟨.ref oa, rfl, .ref oa, (ys.length : Nat), rfl, .inr ⟨_, sqT ((same_upd nZ) _ _ (sH _ _ eo)), by rw [tl]⟩, 1, ys.length, rfl, rfl, sm2 (e := 1) (by decide) (by omega), by omega, 1, 1 * 2 ^ ys.length, rfl, rfl, sm2 (e := 1) (by decide) (by omega), by omega, 1 * 2 ^ (1 * 2 ^ ys.length), 1, rfl, rfl, by rw [Nat.one_mul, Nat.one_mul]; exact p2, ?_⟩⟩
      rw [Nat.one_mul, Nat.one_mul]
      refine ⟨v, .ref Z, B, f, 2 ^ ys.length, fun r => rowV ys r, rfl, (hd.same sH).same (same_upd nZ), hdep, he, ⟨kvs, by rw [upd_ne (fun e => by rw [← e, eB] at nZ; cases nZ)]; exact eB, fun x m => ?_⟩, fun c H3 s3 hcol => q c H3 (sH.trans ((same_upd nZ).trans s3)) hcol⟩
      obtain ⟨j, ej⟩ := List.mem_iff_getElem?.mp (all x m)
      have hj := (List.getElem?_eq_some_iff.mp ej).1
      have ec : cs[j]? = some cs[j] := List.getElem?_eq_getElem (by omega)
      obtain ⟨c1, c2⟩ := hc j cs[j] ec
      exact ⟨cs[j], hv j x cs[j] hj ej ec, c1, fun r hr => (c2 r hr).trans (rowV_get nd ej r).symm⟩
end
end K7

set_option Elab.async false
set_option linter.all false
set_option maxRecDepth 100000
set_option maxHeartbeats 4000000
namespace K7
open PySem PySem.Spec PyProof.Rows L2 GX NdefX
/-! ### comprehensions that leave out some texts -/
theorem txs_get {ys : List Str} {i : Nat} {x : V} (h : (txs ys)[i]? = some x) : ∃ y, ys[i]? = some y ∧ x = .str y := by
  unfold txs at h
  rw [List.getElem?_map] at h
  cases e : ys[i]? with
  | none => rw [e] at h; cases h
  | some y => rw [e] at h; exact ⟨y, rfl, (Option.some.inj h).symm⟩
theorem txs_len (ys : List Str) : (txs ys).length = ys.length := List.length_map ..
theorem lcTxF {J : It} {ys : List Str} {g : TG} {tt : TT} {te : TE} {vs : List Nat} {σ : L2.St} {H1 : Hp} {Q : Addr → Hp → Prop} (B : Str → Bool) (hn : ys.length ≤ 4000)
    (go : ∀ i H, i < ys.length → Same H1 H → J.go i H) (stop : ∀ H, Same H1 H → J.stop ys.length H) (yld : ∀ i H x H', Same H1 H → J.yld i H x H' → H' = H ∧ (txs ys)[i]? = some x)
    (turn : ∀ (D : Addr) (i : Nat) (y : Str) (H : Hp) (Qk : VK) (Qn : Hp → Prop), ys[i]? = some y → Same H1 H → H1 D = none → (B y = true → Qk (.str y) H) → (B y = false → Qn H) → g (.str y) (wipe σ vs) H fun σ2 H2 => wipe σ2 vs = wipe σ vs ∧ tt σ2 H2 fun b H3 => if b = true then te σ2 H3 Qk else Qn H3)
    (done : ∀ D H, H1 D = none → Same H1 H → H D = some (.lst (txs (ys.filter B))) → Q D H) : LcD J g tt te vs σ H1 Q := by
  intro D nD
  refine ⟨fun i m H => m = ys.length - i ∧ i ≤ ys.length ∧ Same H1 H ∧ H D = some (.lst (txs ((ys.take i).filter B))), ⟨ys.length, rfl, Nat.zero_le _, same_upd nD, upd_same⟩, ?_⟩
  rintro i m H ⟨rfl, hi, sm, eD⟩
  by_cases hlt : i < ys.length
  · refine .inr ⟨go i H hlt sm, fun H' => Same H1 H' ∧ H' D = some (.lst (txs ((ys.take (i + 1)).filter B))), fun H' p => ⟨ys.length - (i + 1), by omega, rfl, hlt, p.1, p.2⟩, fun x H' y => ?_⟩
    obtain ⟨rfl, ex⟩ := yld i H x H' sm y
    obtain ⟨z, ez, rfl⟩ := txs_get ex
    have et : ys.take (i + 1) = ys.take i ++ [z] := takeS ez
    have es : sizeLine = 16777216 := sizeLine_eq
    refine turn D i z _ _ _ ez sm nD (fun hb => ⟨_, eD, ?_, fun b o e => by rw [upd_ne (fun w => by rw [w, nD] at e; cases e)]; exact sm _ _ e, ?_⟩) (fun hb => ⟨sm, ?_⟩)
    · rw [txs_len]
      have := List.length_filter_le B (ys.take i)
      rw [List.length_take] at this
      omega
    · rw [upd_same, et, List.filter_append, List.filter_cons, if_pos hb, List.filter_nil]
      unfold txs; rw [List.map_append]; rfl
    · rw [et, List.filter_append, List.filter_cons, if_neg (by rw [hb]; exact Bool.false_ne_true), List.filter_nil, List.append_nil]; exact eD
  · have e : i = ys.length := by omega
    subst e
    rw [List.take_length] at eD
    exact .inl ⟨stop H sm, done D H nD sm eD⟩
theorem lcTupF {K : PySem.W.Frag} {a : Addr} {ys : List Str} {g : TG} {tt : TT} {te : TE} {vs : List Nat} {σ : L2.St} {H1 : Hp} {Q : Addr → Hp → Prop} (B : Str → Bool) (hq : H1 a = some (.tup (txs ys))) (hn : ys.length ≤ 4000)
    (turn : ∀ (D : Addr) (i : Nat) (y : Str) (H : Hp) (Qk : VK) (Qn : Hp → Prop), ys[i]? = some y → Same H1 H → H1 D = none → (B y = true → Qk (.str y) H) → (B y = false → Qn H) → g (.str y) (wipe σ vs) H fun σ2 H2 => wipe σ2 vs = wipe σ vs ∧ tt σ2 H2 fun b H3 => if b = true then te σ2 H3 Qk else Qn H3)
    (done : ∀ D H, H1 D = none → Same H1 H → H D = some (.lst (txs (ys.filter B))) → Q D H) : LcD (Itt K a) g tt te vs σ H1 Q :=
  lcTxF B hn (fun i H h s => ⟨txs ys, _, sqT (s _ _ hq), List.getElem?_eq_getElem (by rw [txs_len]; exact h)⟩) (fun H s => ⟨txs ys, sqT (s _ _ hq), by rw [txs_len]; exact Nat.le_refl _⟩) (fun i H x H' s y => ⟨y.1, y.2 _ (sqT (s _ _ hq))⟩) turn done
theorem lcLstF {K : PySem.W.Frag} {a : Addr} {ys : List Str} {g : TG} {tt : TT} {te : TE} {vs : List Nat} {σ : L2.St} {H1 : Hp} {Q : Addr → Hp → Prop} (B : Str → Bool) (hq : H1 a = some (.lst (txs ys))) (hn : ys.length ≤ 4000)
    (turn : ∀ (D : Addr) (i : Nat) (y : Str) (H : Hp) (Qk : VK) (Qn : Hp → Prop), ys[i]? = some y → Same H1 H → H1 D = none → (B y = true → Qk (.str y) H) → (B y = false → Qn H) → g (.str y) (wipe σ vs) H fun σ2 H2 => wipe σ2 vs = wipe σ vs ∧ tt σ2 H2 fun b H3 => if b = true then te σ2 H3 Qk else Qn H3)
    (done : ∀ D H, H1 D = none → Same H1 H → H D = some (.lst (txs (ys.filter B))) → Q D H) : LcD (Itl K a) g tt te vs σ H1 Q :=
  lcTxF B hn (fun i H h s => ⟨txs ys, _, sqL (s _ _ hq), List.getElem?_eq_getElem (by rw [txs_len]; exact h)⟩) (fun H s => ⟨txs ys, sqL (s _ _ hq), by rw [txs_len]; exact Nat.le_refl _⟩) (fun i H x H' s y => ⟨y.1, y.2 _ (sqL (s _ _ hq))⟩) turn done
end K7

set_option Elab.async false
set_option linter.all false
set_option maxRecDepth 100000
set_option maxHeartbeats 4000000
namespace K7
open PySem PySem.Spec PyProof.Rows L2 GX NdefX
def HangAsk (Cn Cm : Addr) (f : Fm) (v2 : V) (H : Hp) (Q : VK) (E : XK) : Prop := ∃ d2, Dh H v2 d2 ∧ strD d2 = true ∧
  ((nameD d2 = false ∧ Rai E Cn H [("name", v2)]) ∨ ∃ (z : Str) (ys : List Str), v2 = .str z ∧ d2 = .str z ∧ nameB z = true ∧ Told ys f.nms ∧
    ((10 < ys.length ∧ Rai E Cm H [("limit", .int 10)]) ∨ (ys.length ≤ 10 ∧ ∀ b H1, Same H H1 → (b = true ↔ Hangs f z) → Q (.bl b) H1)))
def spHangs (Cf Cn Cm : Addr) : Sp := fun vs H Q E => ∃ (v v2 : V) (d : PyData), vs = [v, v2] ∧ Arg H v d ∧ (formL 40 [d] = false → RaiN E Cf H) ∧
  (formL 40 [d] = true → ∃ f : Fm, d = f.data ∧ f.cnt ≤ 3900 ∧ f.dep ≤ 40 ∧ (f.eds ≠ [] → RaiN E Cf H) ∧ (f.eds = [] → HangAsk Cn Cm f v2 H Q E))
theorem inTxs (z : Str) (ys : List Str) : inV (.str z) (txs ys) = decide (z ∈ ys) := by
  unfold txs
  rw [inStr]
  by_cases h : z ∈ ys
  · rw [decide_eq_true h, List.any_eq_true]
    exact ⟨z, h, decide_eq_true rfl⟩
  · rw [decide_eq_false h, List.any_eq_false]
    intro y my e
    exact h ((of_decide_eq_true e) ▸ my)
theorem flat_txs (ys : List Str) : (txs ys).all flatV = true := by
  unfold txs
  rw [List.all_map, List.all_eq_true]
  exact fun y _ => rfl
section
variable {P : Program} {w : World} {K : PySem.W.Frag} {mg : Str → Option Value} {base : Heap}
theorem ok_hangs {k : Nat} (D : Pr P K mg) : FnOk P w K mg base (CX P w) (k + 43) D.hangs_on.f D.hangs_on.fd ["formula", "name"] (spHangs D.BadFormula.C D.BadName.C D.TooMany.C) := by
  have G_check_plain : FnOk P w K mg base (CX P w) (k + 7) D.check_plain.f D.check_plain.fd ["formula"] (spPlainC D.BadFormula.C) := ok_checkp D
  have G_told_names : FnOk P w K mg base CX0 (k + 2) D.told_names.f D.told_names.fd ["formula"] (spTold Fm.nms) := ok_told_names D
  have G_is_name : FnOk P w K mg base CX0 (k + 1) D.is_name.f D.is_name.fd ["value"] spName := ok_name D
  have G__column : FnOk P w K mg base CX0 (k + 41) D._column.f D._column.fd ["formula", "order"] spColumn := ok_column D
  have GX_BadName : FnOk P w K mg base CX0 (k + 1) D.BadName.f D.BadName.fd ["self", "name"] (spNameE D.BadName.C) := ok_badn D
  have GX_TooMany : FnOk P w K mg base CX0 (k + 1) D.TooMany.f D.TooMany.fd ["self", "limit"] (spManyE D.TooMany.C) := ok_many D
  refine D.hangs_on.F.okX sc_hangs_on (fun vs H Q E h => ?_) (fun cdv A outer s H vs Q E hr h => ?_)
  · obtain ⟨v, v2, d, rfl, _⟩ := h
    rfl
  · obtain ⟨v, v2, d, rfl, ad, q1, q2⟩ := h
    have es : sizeLine = 16777216 := sizeLine_eq
    refine ⟨_, (pss_cons (ps_expr (pe_call G_check_plain (hr.mono (by omega)) (by rfl) D.check_plain.g D.check_plain.F.kp D.check_plain.b .nil (passes_call (takes_of rfl rfl rfl rfl) (fun _ _ _ _ h => h)) (pa_cons (pv 0) pa_nil)))
      (pss_cons (ps_if (pt_not (pt_val (pe_call G_is_name (hr.mono (by omega)) (by rfl) D.is_name.g D.is_name.F.kp D.is_name.b .nil pass0 (pa_cons (pv 1) pa_nil)))) (pss_one (ps_raise rfl (takes_of rfl rfl rfl rfl) (pmk_oex D.BadName.T.O D.BadName.T.iC D.BadName.T.tI GX_BadName (hr.mono (by omega)) D.BadName.b .nil pass0 (by rfl) D.BadName.g (pa_cons (pv 1) pa_nil)))) pss_nil)
      (pss_cons (ps_set (i := 2) sc_hangs_on.nd rfl (.inl rfl) (pe_call G_told_names (hr.mono (by omega)) (by rfl) D.told_names.g D.told_names.F.kp D.told_names.b .nil pass0 (pa_cons (pv 0) pa_nil)))
      (pss_cons (ps_if (pt_cmpR op_gt (pe_callB call_len (by rfl) D.B.len PySem.boot_len (pa_cons (pv 2) pa_nil)) pe_int (nomark _)) (pss_one (ps_raise rfl (takes_of rfl rfl rfl rfl) (pmk_oex D.TooMany.T.O D.TooMany.T.iC D.TooMany.T.tI GX_TooMany (hr.mono (by omega)) D.TooMany.b .nil pass0 (by rfl) D.TooMany.g (pa_cons pe_int pa_nil)))) pss_nil)
      (pss_cons (ps_if (pt_cmpR op_notIn_seq (pv 1) (pv 2) (by rfl)) (pss_one (ps_ret pe_bl)) pss_nil)
      (pss_cons (ps_set (i := 3) sc_hangs_on.nd rfl (.inl rfl) (pe_op (r := rCatA K) op_catA (pe_tup (pa_cons (pv 1) pa_nil)) (pe_callTy call_tuple_of (by rfl) D.B.tuple (by decide +kernel) (pa_cons (pe_lc (own := [("other", 4)]) (g := (gName 4)) rfl sc_hangs_on.nd (pi_tup (pv 2)) (blkOk_by (own := [("other", 4)]) (N := n_hangs_on) (sc := defScope s_hangs_on) (by decide +kernel)) (fun _ _ _ _ _ => (pg_name (i := 4) sc_hangs_on.nd rfl (.inl rfl))) (fun _ _ _ _ _ => (pts_one (pt_cmpR op_ne (pv 4) (pv 1) (nomark _)))) (fun _ _ _ _ _ => (pv 4))) pa_nil))))
      (pss_cons (ps_set (i := 5) sc_hangs_on.nd rfl (.inl rfl) (pe_call G__column (hr.mono (by omega)) (by rfl) D._column.g D._column.F.kp D._column.b .nil pass0 (pa_cons (pv 0) (pa_cons (pv 3) pa_nil))))
      (pss_cons (ps_set (i := 6) sc_hangs_on.nd rfl (.inl rfl) (pe_op (r := rShlN) op_ShlN pe_int (pe_op (r := rSubN) op_SubN (pe_callB call_len (by rfl) D.B.len PySem.boot_len (pa_cons (pv 3) pa_nil)) pe_int)))
      (pss_one (ps_ret (pe_cmpR op_ne (pe_op (r := rShrN) op_ShrN (pv 5) (pv 6)) (pe_op (r := rAndN) op_AndN (pv 5) (pe_op (r := rSubN) op_SubN (pe_op (r := rShlN) op_ShlN pe_int (pv 6)) pe_int)) (nomark _)))))))))))), ?_⟩
    refine ⟨v, rfl, v, d, rfl, ad, q1, fun e => ?_⟩
    obtain ⟨f, rfl, hc, hd, r1, r2⟩ := q2 e
    refine ⟨f, rfl, hc, r1, fun he H1 s1 => ?_⟩
    obtain ⟨d2, hd2, st2, ask⟩ := r2 he
    refine ⟨v2, rfl, v2, d2, rfl, hd2.same s1, fun z ez => by subst ez; exact of_decide_eq_true st2, fun H2 s2 => ⟨nameD d2, rfl, ?_⟩⟩
    rcases ask with ⟨nb, rn⟩ | ⟨z, ys, rfl, rfl, nb, tl, ask⟩
    · rw [nb]
      exact iteT ⟨v2, rfl, mkO_name rn (s1.trans s2)⟩
    · rw [show nameD (.str z) = true from nb]
      refine iteF ⟨v, rfl, v, f, rfl, (ad.dh.same s1).same s2, hc, fun ys' a H3 tl' s3 ea => ?_⟩
      obtain rfl : ys' = ys := tl'.unique tl
      have sH := s1.trans (s2.trans s3)
      have ea : H3 a = some (.tup (txs ys')) := ea
      refine ⟨.ref a, rfl, .ref a, (ys'.length : Nat), rfl, .inr ⟨_, sqT ea, by rw [txs_len]⟩, ys'.length, 10, rfl, rfl, _, rfl, ?_⟩
      rcases ask with ⟨l10, rm⟩ | ⟨l10, q⟩
      · rw [decide_eq_true (by omega)]
        exact iteT (mkO_many rm sH)
      · rw [decide_eq_false (by omega)]
        refine iteF ⟨.str z, rfl, .ref a, rfl, a, _, rfl, .inr (sqT ea), rfl, flat_txs _, _, rfl, ?_⟩
        show if (if true = true then (!inV (V.str z) (txs ys')) else _) = true then _ else _
        rw [if_pos rfl, inTxs]
        by_cases mz : z ∈ ys'
        case neg =>
          rw [decide_eq_false mz]
          exact iteT (q false H3 sH ⟨fun h => (by cases h), fun h => absurd h (not_hangs fun m => mz ((tl.2.2 z).mpr m))⟩)
        rw [decide_eq_true mz]
        refine iteF ⟨.str z, rfl, by show 1 ≤ sizeLine; omega, fun P1 nP => ⟨.ref a, rfl, a, rfl, ⟨_, sqT ((same_upd nP) _ _ ea)⟩, lcTupF (K := K) (vs := [4]) (ys := ys') (fun y => !decide (y = z)) ((same_upd nP) _ _ ea) (by omega) ?_ ?_⟩⟩
        · intro Dl i y H4 Qk Qn ey s4 nD h1 h2
          refine ⟨by rw [wipe1, wipe2], .str y, rfl, .str z, rfl, rfl, _, rfl, ?_⟩
          rw [strEq]
          by_cases e : y = z
          · rw [decide_eq_true e]
            exact iteF (h2 (by simp [e]))
          · rw [decide_eq_false e]
            exact iteT ⟨.str y, rfl, h1 (by simp [e])⟩
        · intro Dl H4 nD s4 eD
          obtain ⟨os, eos⟩ : ∃ os, ys'.filter (fun y => !decide (y = z)) = os := ⟨_, rfl⟩
          rw [eos] at eD
          have mos : ∀ y, y ∈ os ↔ y ∈ ys' ∧ y ≠ z := fun y => by rw [← eos, List.mem_filter]; simp
          have los : os.length < ys'.length := by
            rw [← eos]
            exact List.length_filter_lt_length_iff_exists.mpr ⟨z, mz, by simp⟩
          have nos : (z :: os).Nodup := List.nodup_cons.mpr ⟨fun m => ((mos z).mp m).2 rfl, by rw [← eos]; exact tl.2.1.filter _⟩
          have all : ∀ x ∈ f.nms, x ∈ z :: os := fun x m => by
            by_cases e : x = z
            · rw [e]; exact List.mem_cons_self
            · exact List.mem_cons_of_mem _ ((mos x).mpr ⟨(tl.2.2 x).mpr m, e⟩)
          have s14 := (same_upd nP (o := .tup [.str z])).trans s4
          have eP : H4 P1 = some (.tup [.str z]) := s4 _ _ upd_same
          refine ⟨Dl, txs os, rfl, .inl ⟨sqL eD, fun l nl => ?_⟩⟩
          have s5 := s14.trans (same_upd nl (o := .tup (txs os)))
          have eP5 : upd H4 l (.tup (txs os)) P1 = some (.tup [.str z]) := (same_upd nl) _ _ eP
          have el5 : upd H4 l (.tup (txs os)) l = some (.tup (txs os)) := upd_same
          generalize upd H4 l (.tup (txs os)) = H5 at s5 eP5 el5
          refine ⟨P1, l, [.str z], txs os, rfl, rfl, sqT eP5, sqT el5, by rw [txs_len]; simp; omega, fun e => (by cases e), fun _ e0 => ?_, fun _ ne p np => ?_⟩
          case' refine_1 =>
            have e1 : os = [] := List.eq_nil_of_length_eq_zero (by have := txs_len os; rw [e0] at this; simpa using this.symm)
            have eo : H5 P1 = some (.tup (txs (z :: os))) := by rw [e1]; exact eP5
            have so := s5
            generalize P1 = o at eo
            generalize H5 = Ho at eo so
          case' refine_2 =>
            have eo : upd H5 p (.tup ([.str z] ++ txs os)) p = some (.tup (txs (z :: os))) := upd_same
            have so := s5.trans (same_upd np (o := .tup ([.str z] ++ txs os)))
            generalize upd H5 p (.tup ([.str z] ++ txs os)) = Ho at eo so
            generalize p = o at eo
          all_goals
            refine ⟨v, rfl, .ref o, rfl, v, o, f, z :: os, rfl, (ad.dh.same sH).same so, hd, he, eo, nos, by simp; omega, all, fun c H6 s6 hcol => ?_⟩
            have e6 := s6 _ _ eo
            have pn : 2 ^ os.length ≤ 1024 := Nat.le_trans (Nat.pow_le_pow_right (by decide) (show os.length ≤ 10 by omega)) (by decide)
            have p2 := Nat.two_pow_pos (2 ^ os.length)
            refine ⟨.ref o, rfl, .ref o, ((z :: os).length : Nat), rfl, .inr ⟨_, sqT e6, by rw [txs_len]⟩, (z :: os).length, 1, rfl, rfl, by simp, 1, (z :: os).length - 1, rfl, rfl, sm2 (e := 1) (by decide) (by omega), by simp; omega, ?_⟩
            rw [show (z :: os).length - 1 = os.length by simp, Nat.one_mul]
            refine ⟨_, rfl, _, rfl, c, 2 ^ os.length, rfl, rfl, _, rfl, _, rfl, 1, 2 ^ os.length, rfl, rfl, sm2 (e := 1) (by decide) (by omega), by omega, ?_⟩
            rw [Nat.one_mul]
            refine ⟨2 ^ 2 ^ os.length, 1, rfl, rfl, p2, c, 2 ^ 2 ^ os.length - 1, rfl, rfl, rfl, ?_⟩
            rw [intEq, Nat.and_two_pow_sub_one_eq_mod]
            have hv := halves nos all hcol
            refine q _ H6 (sH.trans (so.trans s6)) ?_
            rw [Bool.not_eq_true', decide_eq_false_iff_not, hv]
            exact Classical.not_not
end
end K7

set_option Elab.async false
set_option linter.all false
set_option maxRecDepth 100000
set_option maxHeartbeats 4000000
namespace K7
open PySem PySem.Spec PyProof.Rows L2 GX NdefX
def spLNums (K : PySem.W.Frag) : Sp := fun vs H Q _ => ∃ (a : Addr) (ns : List Int), vs = [.ref a] ∧ SqL K H a (ns.map V.int) ∧ ns.length ≤ 63 ∧
  ∀ D H' l, Same H H' → H D = none → H' D = some (.lst (nts l)) → l.length ≤ 4000 → Q (.ref D) H'
section
variable {P : Program} {w : World} {K : PySem.W.Frag} {mg : Str → Option Value} {base : Heap}
theorem ok_lnums {f : Addr} {fd : FuncData} {k : Nat} (F : Fun K "_law_numbers" "_law_numbers" s__law_numbers f fd) (B : Bl mg) : FnOk P w K mg base CX0 (k + 1) f fd ["script"] (spLNums K) := by
  refine F.ok sc__law_numbers (fun vs H Q E h => ?_) (fun cdv A outer s H vs Q E hr h => ?_)
  · obtain ⟨a, ns, rfl, _⟩ := h
    rfl
  · obtain ⟨a, ns, rfl, hq, hl, q⟩ := h
    refine ⟨_, pss_cons (ps_set (i := 1) sc__law_numbers.nd rfl (.inl rfl) (pe_lst pa_nil))
      (pss_cons (ps_for PassesOwn.never rfl (pi_range1 (by rfl) B.range (pa_cons (pe_callB (call_min2 rfl) (by rfl) B.min (by decide +kernel) (pa_cons (pe_callB call_len (by rfl) B.len PySem.boot_len (pa_cons (pv 0) pa_nil)) (pa_cons pe_int pa_nil))) pa_nil)) (pg_name (i := 2) sc__law_numbers.nd rfl (.inl rfl))
        (pss_cons (ps_set (i := 3) sc__law_numbers.nd rfl (.inl rfl) (pe_callTy call_int1 (by rfl) B.int (by decide +kernel) (pa_cons (pe_ix (r := rIxL K) ix_list (pv 0) (pv 2) (fun _ _ => rfl)) pa_nil)))
        (pss_cons (ps_set (i := 4) sc__law_numbers.nd rfl (.inl rfl) pe_int)
        (pss_cons (ps_if (pt_cmpR op_lt (pv 3) pe_int (nomark _)) (pss_cons (ps_set (i := 3) sc__law_numbers.nd rfl (.inl rfl) (pe_op op_sub pe_int (pv 3))) (pss_one (ps_set (i := 4) sc__law_numbers.nd rfl (.inl rfl) pe_int))) pss_nil)
        (pss_one (ps_if (pt_cmpR op_ge (pv 3) (pe_op op_pow pe_int pe_int) (nomark _))
          (pss_one (ps_for PassesOwn.never rfl (pi_range1 (by rfl) B.range (pa_cons pe_int pa_nil)) (pg_name (i := 5) sc__law_numbers.nd rfl (.inl rfl))
            (pss_one (ps_if (pt_cmpR op_gt (pv 3) pe_int (nomark _))
              (pss_cons (ps_expr (pe_bm PySem.F.plainAttrs_list PySem.F.slot_list_append PySem.F.type_list_append mt_append (pv 1) (pa_cons (pe_op op_modN (pe_callTy call_int1 (by rfl) B.int (by decide +kernel) (pa_cons (pv 3) pa_nil)) pe_int) pa_nil)))
              (pss_one (ps_set (i := 3) sc__law_numbers.nd rfl (.inl rfl) (pe_op op_fdivN (pv 3) pe_int)))) pss_nil))))
          (pss_cons (ps_set (i := 6) sc__law_numbers.nd rfl (.inl rfl) (pe_op op_modN (pe_callTy call_int1 (by rfl) B.int (by decide +kernel) (pa_cons (pe_op op_add (pe_op op_add (pe_op op_add (pe_mul (pv 3) pe_int) (pe_mul (pv 2) pe_int)) (pe_mul (pv 4) pe_int)) pe_int) pa_nil)) pe_int))
          (pss_one (ps_for PassesOwn.never rfl (pi_range1 (by rfl) B.range (pa_cons pe_int pa_nil)) (pg_name (i := 5) sc__law_numbers.nd rfl (.inl rfl))
            (pss_cons (ps_set (i := 6) sc__law_numbers.nd rfl (.inl rfl) (pe_op op_modN (pe_callTy call_int1 (by rfl) B.int (by decide +kernel) (pa_cons (pe_op op_add (pe_op op_add (pe_mul (pv 6) pe_int) (pe_mul (pe_callTy call_int1 (by rfl) B.int (by decide +kernel) (pa_cons (pe_op op_fdivN (pv 6) pe_int) pa_nil)) (pv 5))) pe_int) pa_nil)) pe_int))
            (pss_one (ps_expr (pe_bm PySem.F.plainAttrs_list PySem.F.slot_list_append PySem.F.type_list_append mt_append (pv 1) (pa_cons (pe_op op_modN (pe_callTy call_int1 (by rfl) B.int (by decide +kernel) (pa_cons (pe_op op_fdivN (pv 6) pe_int) pa_nil)) pe_int) pa_nil))))))))))))))
      (pss_cons (ps_expr (pe_bm0 PySem.F.plainAttrs_list PySem.F.slot_list_reverse PySem.F.type_list_reverse mt_reverse (pv 1)))
      (pss_one (ps_ret (pv 1))))), ?_⟩
    refine ⟨Nat.zero_le _, fun D nD => ?_⟩
    refine ⟨.ref a, rfl, .ref a, ns.length, rfl, .inl ⟨_, Same.seq (same_upd nD) hq, by rw [List.length_map]⟩, (ns.length : Int), 63, rfl, ?_⟩
    rw [if_neg (by omega)]
    refine ⟨(ns.length : Int), rfl, by omega, by omega, ?_⟩
    refine for_range (D := { nx := _, rt := Q }) (fun i σ H' => (∃ c2 c3 c4 c5 c6, σ = [some (.ref a), some (.ref D), c2, c3, c4, c5, c6]) ∧ Same H H' ∧ ∃ l, H' D = some (.lst (nts l)) ∧ l.length ≤ 45 * i) ?_ ?_ ?_
    · exact ⟨⟨_, _, _, _, _, rfl⟩, same_upd nD, [], upd_same, Nat.le_refl _⟩
    · rintro i σ H2 hi ⟨⟨c2, c3, c4, c5, c6, rfl⟩, s2, l, e2, hl2⟩
      have hi : i < ns.length := by
        have : i < ((ns.length : Int)).toNat := hi
        omega
      have ei : (0 : Int) + i = i := Int.zero_add _
      refine ⟨.ref a, rfl, _, rfl, a, _, _, .int ns[i], rfl, rfl, Same.seq s2 hq, by rw [ei]; refine atI_nat ?_; rw [List.getElem?_map, List.getElem?_eq_getElem hi]; rfl, .inl ⟨ns[i], rfl, ?_⟩⟩
      refine ⟨_, rfl, ns[i], 0, rfl, rfl, _, rfl, ?_⟩
      generalize ns[i] = n
      by_cases hneg : n < 0
      · rw [decide_eq_true hneg]
        refine iteT ⟨.int n, rfl, 0, n, rfl, rfl, ?_⟩
        have hc : (0 : Int) ≤ 0 - n := by omega
        refine ⟨.int (0 - n), rfl, 10, 18, rfl, rfl, ⟨by decide, by decide, by decide⟩, (0 - n), _, rfl, rfl, _, rfl, ?_⟩
        by_cases hbig : (10 : Int) ^ (18 : Int).toNat ≤ (0 - n)
        · rw [decide_eq_true hbig]
          refine iteT ⟨45, rfl, by decide, by decide, ?_⟩
          refine for_range (D := { nx := _, rt := Q }) (fun j σ H' => (∃ c' c5, σ = [some (.ref a), some (.ref D), some (.int (0 + (i : Int))), some (.int c'), some (.int 1), c5, c6] ∧ 0 ≤ c') ∧ Same H H' ∧ ∃ l, H' D = some (.lst (nts l)) ∧ l.length ≤ 45 * i + j) ?_ ?_ ?_
          · exact ⟨⟨_, _, rfl, hc⟩, s2, l, e2, hl2⟩
          · rintro j σ H3 hj ⟨⟨c', c5, rfl, hc'⟩, s3, l, e3, hl3⟩
            have hj : j < 45 := hj
            refine ⟨.int c', rfl, c', 0, rfl, rfl, _, rfl, ?_⟩
            by_cases hpos : (0 : Int) < c'
            · rw [decide_eq_true hpos]
              refine iteT ⟨.ref D, rfl, .inl ⟨rfl, _, sqL e3⟩, .int c', rfl, .inl ⟨c', rfl, c', 60, rfl, rfl, (by show (60 : Int) ≠ 0; decide), D, _, _, rfl, rfl, e3, by rw [nts_len, sizeLine_eq]; omega, .int c', rfl, c', 60, rfl, rfl, ⟨by decide, by decide⟩, ?_⟩⟩
              have hm := fmod_nn (a := c') (b := 60) hc' (by decide)
              refine ⟨⟨_, _, rfl, (fdiv_nn hc' (by decide)).1⟩, fun b o e => ?_, l ++ [(c'.fmod 60).toNat], ?_, ?_⟩
              · rw [upd_ne (ne_of_none e nD)]
                exact s3 _ _ e
              · rw [upd_same, nts_snoc _ hm.1]
              · rw [List.length_append, List.length_singleton]
                omega
            · rw [decide_eq_false hpos]
              exact iteF ⟨⟨_, _, rfl, hc'⟩, s3, l, e3, by omega⟩
          · rintro σ H3 ⟨⟨c', c5, rfl, hc'⟩, s3, l, e3, hl3⟩
            have hl3 : l.length ≤ 45 * i + 45 := hl3
            exact ⟨⟨_, _, _, _, _, rfl⟩, s3, l, e3, by omega⟩
        · rw [decide_eq_false hbig]
          have hbig : ¬ (1000000000000000000 : Int) ≤ (0 - n) := hbig
          refine iteF ⟨.int (0 - n), rfl, (0 - n), 16807, rfl, rfl, ⟨by omega, by omega⟩, _, rfl, _, 7919, rfl, rfl, ⟨by omega, by omega⟩, _, _, rfl, rfl, .int 1, rfl, 1, 104729, rfl, rfl, ⟨by omega, by omega⟩, _, _, rfl, rfl, _, _, rfl, rfl, .inl ⟨_, rfl, _, 2147483629, rfl, rfl, (by show (2147483629 : Int) ≠ 0; decide), 7, rfl, by decide, by decide, ?_⟩⟩
          have hs := fmod_nn (a := (0 - n) * 16807 + (0 + (i : Int)) * 7919 + 1 * 104729 + 11) (b := 2147483629) (by omega) (by decide)
          refine for_range (D := { nx := _, rt := Q }) (fun j σ H' => (∃ c5 sd, σ = [some (.ref a), some (.ref D), some (.int (0 + (i : Int))), some (.int (0 - n)), some (.int 1), c5, some (.int sd)] ∧ 0 ≤ sd ∧ sd < 2147483629) ∧ Same H H' ∧ ∃ l, H' D = some (.lst (nts l)) ∧ l.length ≤ 45 * i + j) ?_ ?_ ?_
          · exact ⟨⟨_, _, rfl, hs⟩, s2, l, e2, hl2⟩
          · rintro j σ H3 hj ⟨⟨c5, sd, rfl, h0, h1⟩, s3, l, e3, hl3⟩
            have hj : j < 7 := hj
            have hd := fdiv_nn (a := sd) (b := 1000) h0 (by decide)
            refine ⟨.int sd, rfl, sd, 39373, rfl, rfl, ⟨by omega, by omega⟩, .int sd, rfl, sd, 1000, rfl, rfl, ⟨by decide, by decide⟩, .inl ⟨_, rfl, _, rfl, _, _, rfl, rfl, ⟨by omega, by omega⟩, _, _, rfl, rfl, _, _, rfl, rfl, .inl ⟨_, rfl, _, 2147483629, rfl, rfl, (by show (2147483629 : Int) ≠ 0; decide), ?_⟩⟩⟩
            have hp : 0 ≤ sd.fdiv 1000 * (0 + (j : Int)) := Int.mul_nonneg hd.1 (by omega)
            have hs2 := fmod_nn (a := sd * 39373 + sd.fdiv 1000 * (0 + (j : Int)) + 7919) (b := 2147483629) (by omega) (by decide)
            have hd2 := fdiv_nn (a := (sd * 39373 + sd.fdiv 1000 * (0 + (j : Int)) + 7919).fmod 2147483629) (b := 7) hs2.1 (by decide)
            have hm2 := fmod_nn (a := ((sd * 39373 + sd.fdiv 1000 * (0 + (j : Int)) + 7919).fmod 2147483629).fdiv 7) (b := 55440) hd2.1 (by decide)
            refine ⟨.ref D, rfl, .inl ⟨rfl, _, sqL e3⟩, _, rfl, _, 7, rfl, rfl, ⟨by decide, by decide⟩, .inl ⟨_, rfl, _, 55440, rfl, rfl, (by show (55440 : Int) ≠ 0; decide), D, _, _, rfl, rfl, e3, by rw [nts_len, sizeLine_eq]; omega, ?_⟩⟩
            refine ⟨⟨_, _, rfl, hs2⟩, fun b o e => ?_, l ++ [((((sd * 39373 + sd.fdiv 1000 * (0 + (j : Int)) + 7919).fmod 2147483629).fdiv 7).fmod 55440).toNat], ?_, ?_⟩
            · rw [upd_ne (ne_of_none e nD)]
              exact s3 _ _ e
            · rw [upd_same]
              exact congrArg (fun l => some (HO.lst l)) (nts_snoc _ hm2.1)
            · rw [List.length_append, List.length_singleton]
              omega
          · rintro σ H3 ⟨⟨c5, sd, rfl, h0, h1⟩, s3, l, e3, hl3⟩
            have hl3 : l.length ≤ 45 * i + 7 := hl3
            exact ⟨⟨_, _, _, _, _, rfl⟩, s3, l, e3, by omega⟩
      · rw [decide_eq_false hneg]
        refine iteF ?_
        have hc : (0 : Int) ≤ n := by omega
        refine ⟨.int n, rfl, 10, 18, rfl, rfl, ⟨by decide, by decide, by decide⟩, n, _, rfl, rfl, _, rfl, ?_⟩
        by_cases hbig : (10 : Int) ^ (18 : Int).toNat ≤ n
        · rw [decide_eq_true hbig]
          refine iteT ⟨45, rfl, by decide, by decide, ?_⟩
          refine for_range (D := { nx := _, rt := Q }) (fun j σ H' => (∃ c' c5, σ = [some (.ref a), some (.ref D), some (.int (0 + (i : Int))), some (.int c'), some (.int 0), c5, c6] ∧ 0 ≤ c') ∧ Same H H' ∧ ∃ l, H' D = some (.lst (nts l)) ∧ l.length ≤ 45 * i + j) ?_ ?_ ?_
          · exact ⟨⟨_, _, rfl, hc⟩, s2, l, e2, hl2⟩
          · rintro j σ H3 hj ⟨⟨c', c5, rfl, hc'⟩, s3, l, e3, hl3⟩
            have hj : j < 45 := hj
            refine ⟨.int c', rfl, c', 0, rfl, rfl, _, rfl, ?_⟩
            by_cases hpos : (0 : Int) < c'
            · rw [decide_eq_true hpos]
              refine iteT ⟨.ref D, rfl, .inl ⟨rfl, _, sqL e3⟩, .int c', rfl, .inl ⟨c', rfl, c', 60, rfl, rfl, (by show (60 : Int) ≠ 0; decide), D, _, _, rfl, rfl, e3, by rw [nts_len, sizeLine_eq]; omega, .int c', rfl, c', 60, rfl, rfl, ⟨by decide, by decide⟩, ?_⟩⟩
              have hm := fmod_nn (a := c') (b := 60) hc' (by decide)
              refine ⟨⟨_, _, rfl, (fdiv_nn hc' (by decide)).1⟩, fun b o e => ?_, l ++ [(c'.fmod 60).toNat], ?_, ?_⟩
              · rw [upd_ne (ne_of_none e nD)]
                exact s3 _ _ e
              · rw [upd_same, nts_snoc _ hm.1]
              · rw [List.length_append, List.length_singleton]
                omega
            · rw [decide_eq_false hpos]
              exact iteF ⟨⟨_, _, rfl, hc'⟩, s3, l, e3, by omega⟩
          · rintro σ H3 ⟨⟨c', c5, rfl, hc'⟩, s3, l, e3, hl3⟩
            have hl3 : l.length ≤ 45 * i + 45 := hl3
            exact ⟨⟨_, _, _, _, _, rfl⟩, s3, l, e3, by omega⟩
        · rw [decide_eq_false hbig]
          have hbig : ¬ (1000000000000000000 : Int) ≤ n := hbig
          refine iteF ⟨.int n, rfl, n, 16807, rfl, rfl, ⟨by omega, by omega⟩, _, rfl, _, 7919, rfl, rfl, ⟨by omega, by omega⟩, _, _, rfl, rfl, .int 0, rfl, 0, 104729, rfl, rfl, ⟨by omega, by omega⟩, _, _, rfl, rfl, _, _, rfl, rfl, .inl ⟨_, rfl, _, 2147483629, rfl, rfl, (by show (2147483629 : Int) ≠ 0; decide), 7, rfl, by decide, by decide, ?_⟩⟩
          have hs := fmod_nn (a := n * 16807 + (0 + (i : Int)) * 7919 + 0 * 104729 + 11) (b := 2147483629) (by omega) (by decide)
          refine for_range (D := { nx := _, rt := Q }) (fun j σ H' => (∃ c5 sd, σ = [some (.ref a), some (.ref D), some (.int (0 + (i : Int))), some (.int n), some (.int 0), c5, some (.int sd)] ∧ 0 ≤ sd ∧ sd < 2147483629) ∧ Same H H' ∧ ∃ l, H' D = some (.lst (nts l)) ∧ l.length ≤ 45 * i + j) ?_ ?_ ?_
          · exact ⟨⟨_, _, rfl, hs⟩, s2, l, e2, hl2⟩
          · rintro j σ H3 hj ⟨⟨c5, sd, rfl, h0, h1⟩, s3, l, e3, hl3⟩
            have hj : j < 7 := hj
            have hd := fdiv_nn (a := sd) (b := 1000) h0 (by decide)
            refine ⟨.int sd, rfl, sd, 39373, rfl, rfl, ⟨by omega, by omega⟩, .int sd, rfl, sd, 1000, rfl, rfl, ⟨by decide, by decide⟩, .inl ⟨_, rfl, _, rfl, _, _, rfl, rfl, ⟨by omega, by omega⟩, _, _, rfl, rfl, _, _, rfl, rfl, .inl ⟨_, rfl, _, 2147483629, rfl, rfl, (by show (2147483629 : Int) ≠ 0; decide), ?_⟩⟩⟩
            have hp : 0 ≤ sd.fdiv 1000 * (0 + (j : Int)) := Int.mul_nonneg hd.1 (by omega)
            have hs2 := fmod_nn (a := sd * 39373 + sd.fdiv 1000 * (0 + (j : Int)) + 7919) (b := 2147483629) (by omega) (by decide)
            have hd2 := fdiv_nn (a := (sd * 39373 + sd.fdiv 1000 * (0 + (j : Int)) + 7919).fmod 2147483629) (b := 7) hs2.1 (by decide)
            have hm2 := fmod_nn (a := ((sd * 39373 + sd.fdiv 1000 * (0 + (j : Int)) + 7919).fmod 2147483629).fdiv 7) (b := 55440) hd2.1 (by decide)
            refine ⟨.ref D, rfl, .inl ⟨rfl, _, sqL e3⟩, _, rfl, _, 7, rfl, rfl, ⟨by decide, by decide⟩, .inl ⟨_, rfl, _, 55440, rfl, rfl, (by show (55440 : Int) ≠ 0; decide), D, _, _, rfl, rfl, e3, by rw [nts_len, sizeLine_eq]; omega, ?_⟩⟩
            refine ⟨⟨_, _, rfl, hs2⟩, fun b o e => ?_, l ++ [((((sd * 39373 + sd.fdiv 1000 * (0 + (j : Int)) + 7919).fmod 2147483629).fdiv 7).fmod 55440).toNat], ?_, ?_⟩
            · rw [upd_ne (ne_of_none e nD)]
              exact s3 _ _ e
            · rw [upd_same]
              exact congrArg (fun l => some (HO.lst l)) (nts_snoc _ hm2.1)
            · rw [List.length_append, List.length_singleton]
              omega
          · rintro σ H3 ⟨⟨c5, sd, rfl, h0, h1⟩, s3, l, e3, hl3⟩
            have hl3 : l.length ≤ 45 * i + 7 := hl3
            exact ⟨⟨_, _, _, _, _, rfl⟩, s3, l, e3, by omega⟩
    · rintro σ H2 ⟨⟨c2, c3, c4, c5, c6, rfl⟩, s2, l, e2, hl2⟩
      have hl2 : l.length ≤ 45 * ((ns.length : Int)).toNat := hl2
      refine ⟨.ref D, rfl, .inl ⟨rfl, _, sqL e2⟩, D, _, rfl, rfl, e2, .ref D, rfl, q D _ l.reverse (fun b o e => ?_) nD ?_ ?_⟩
      · rw [upd_ne (ne_of_none e nD)]
        exact s2 _ _ e
      · rw [upd_same]
        unfold nts
        rw [List.map_reverse]
      · rw [List.length_reverse]
        omega
end
def spDraw : Sp := fun vs H Q _ => ∃ (a : Addr) (m : Nat), vs = [.ref a, .int m] ∧ 1 ≤ m ∧ NumsAt H a ∧ ∀ (H' : Hp) (r : Nat), r < m → SameB a H H' → NumsAt H' a → Q (.int (r : Nat)) H'
def spInt : Sp := fun vs H Q _ => ∃ i : Int, vs = [.int i] ∧ Q (.bl true) H
section
variable {P : Program} {w : World} {K : PySem.W.Frag} {mg : Str → Option Value} {base : Heap}
theorem ok_draw {f : Addr} {fd : FuncData} {k : Nat} (F : Fun K "_law_draw" "_law_draw" s__law_draw f fd) (B : Bl mg) : FnOk P w K mg base CX0 (k + 1) f fd ["numbers", "many"] spDraw := by
  refine F.ok sc__law_draw (fun vs H Q E h => ?_) (fun cdv A outer s H vs Q E hr h => ?_)
  · obtain ⟨a, m, rfl, _⟩ := h
    rfl
  · obtain ⟨a, m, rfl, hm, ⟨l, ea, hl⟩, q⟩ := h
    refine ⟨_, pss_cons (ps_if (pt_cmpR op_eq (pe_callB call_len (by rfl) B.len PySem.boot_len (pa_cons (pv 0) pa_nil)) pe_int (nomark _)) (pss_one (ps_ret pe_int)) pss_nil)
      (pss_one (ps_ret (pe_op op_modN (pe_callTy call_int1 (by rfl) B.int (by decide +kernel) (pa_cons (pe_bm0 PySem.F.plainAttrs_list PySem.F.slot_list_pop PySem.F.type_list_pop mt_pop (pv 0)) pa_nil)) (pv 1)))), ?_⟩
    refine ⟨.ref a, rfl, .ref a, l.length, rfl, .inl ⟨_, sqL ea, (nts_len l).symm⟩, rfl, _, rfl, ?_⟩
    by_cases h0 : l.length = 0
    · rw [decide_eq_true (by rw [h0]; rfl)]
      exact iteT (q H 0 hm SameB.refl ⟨l, ea, hl⟩)
    rw [decide_eq_false (fun e => h0 (by have := V.int.inj e; omega))]
    have hi : l.length - 1 < l.length := by omega
    refine iteF ⟨.ref a, rfl, .inl ⟨rfl, _, sqL ea⟩, a, _, .int (l[l.length - 1]), rfl, rfl, ea, ?_, .inl ⟨_, rfl, .int m, rfl, _, m, rfl, rfl, (by show (m : Int) ≠ 0; omega), ?_⟩⟩
    · rw [nts_len]
      unfold nts
      rw [List.getElem?_map, List.getElem?_eq_getElem hi]
      rfl
    · have hf := fmod_nn (a := ((l[l.length - 1] : Nat) : Int)) (b := m) (by omega) (by omega)
      have z := q (upd H a (.lst (nts l).dropLast)) (((l[l.length - 1] : Nat) : Int).fmod m).toNat (by omega) (fun b o n e => by rw [upd_ne n]; exact e) ⟨l.dropLast, by rw [upd_same]; unfold nts; rw [List.map_dropLast], by rw [List.length_dropLast]; omega⟩
      rw [Int.toNat_of_nonneg hf.1] at z
      exact z
theorem ok_lint {f : Addr} {fd : FuncData} {k : Nat} (F : Fun K "_law_int" "_law_int" s__law_int f fd) (B : Bl mg) : FnOk P w K mg base CX0 (k + 1) f fd ["value"] spInt := by
  refine F.ok sc__law_int (fun vs H Q E h => ?_) (fun cdv A outer s H vs Q E hr h => ?_)
  · obtain ⟨i, rfl, _⟩ := h
    rfl
  · obtain ⟨i, rfl, q⟩ := h
    refine ⟨_, pss_one (ps_ret (pe_and (pe_callB call_isi (by rfl) B.isinstance (by decide +kernel) (pa_cons (pv 0) (pa_cons (pe_bltn (v := .ty "int") (u := .type "int") (by rfl) B.int (by decide +kernel) rfl) pa_nil)))
      (pe_one (pe_not (pe_callB call_isi (by rfl) B.isinstance (by decide +kernel) (pa_cons (pv 0) (pa_cons (pe_bltn (v := .ty "bool") (u := .type "bool") (by rfl) B.bool (by decide +kernel) rfl) pa_nil))))))), ?_⟩
    refine ⟨_, rfl, _, _, .type "int", _, true, rfl, .ty "int", .base (.int i), kit_ty (by decide +kernel), true, rfl, iteT ?_⟩
    exact ⟨_, rfl, _, _, .type "int", _, false, rfl, .ty "bool", .base (.int i), kit_ty (by decide +kernel), _, rfl, q⟩
theorem ok_numsD {k : Nat} (D : Pr P K mg) : FnOk P w K mg base CX0 (k + 1) D._law_numbers.f D._law_numbers.fd ["script"] (spLNums K) := ok_lnums D._law_numbers.F D.B
theorem ok_drawD {k : Nat} (D : Pr P K mg) : FnOk P w K mg base CX0 (k + 1) D._law_draw.f D._law_draw.fd ["numbers", "many"] spDraw := ok_draw D._law_draw.F D.B
theorem ok_intD {k : Nat} (D : Pr P K mg) : FnOk P w K mg base CX0 (k + 1) D._law_int.f D._law_int.fd ["value"] spInt := ok_lint D._law_int.F D.B
end
end K7

set_option Elab.async false
set_option linter.all false
set_option maxRecDepth 100000
set_option maxHeartbeats 4000000
namespace K7
open PySem PySem.Spec PyProof.Rows L2 GX NdefX
/-- names of the law's pool -/
def poolLetters : Str := "xabkqmtzgw"
def dg (k : Nat) : List Nat := (Str.ofString (toString (k : Int))).cps.toList
def PoolName (k : Nat) (z : Str) : Prop := ∃ l1 l2 : Nat, l1 ∈ poolLetters.cps.toList ∧ l2 ∈ poolLetters.cps.toList ∧ (z.cps.toList = [l1] ++ dg k ∨ z.cps.toList = [l1, 46, l2] ++ dg k ∨ z.cps.toList = [l1, l2] ++ dg k)
def PoolOk (n : Nat) (p : List Str) : Prop := p.length = n ∧ ∀ (k : Nat) (z : Str), p[k]? = some z → PoolName k z
def spPool : Sp := fun vs H Q _ => ∃ a : Addr, vs = [.ref a, .int 11] ∧ NumsAt H a ∧ ∀ D H' p, PoolOk 11 p → SameB a H H' → NumsAt H' a → H D = none → H' D = some (.lst (txs p)) → Q (.ref D) H'
theorem str_digit : ∀ k : Nat, k < 11 → ((k : Int)).natAbs.log2 < 1920 ∧ (Str.ofString (toString (k : Int))).length ≤ 2 := by decide +kernel
theorem pool_names : ∀ l1 ∈ poolLetters.cps.toList, ∀ k < 11, (nameB (T ([l1] ++ dg k)) = true ∧ nameB (T ([l1] ++ dg k ++ [122])) = true) ∧ ∀ l2 ∈ poolLetters.cps.toList, (nameB (T ([l1, 46, l2] ++ dg k)) = true ∧ nameB (T ([l1, 46, l2] ++ dg k ++ [122])) = true) ∧ nameB (T ([l1, l2] ++ dg k)) = true ∧ nameB (T ([l1, l2] ++ dg k ++ [122])) = true := by decide +kernel
theorem PoolName.name {k : Nat} {z : Str} (hk : k < 11) (h : PoolName k z) : nameB z = true := by
  obtain ⟨l1, l2, m1, m2, h⟩ := h
  obtain ⟨p1, p2⟩ := pool_names l1 m1 k hk
  obtain ⟨p3, p4⟩ := p2 l2 m2
  rcases h with h | h | h
  · rw [T_eq h]; exact p1.1
  · rw [T_eq h]; exact p3.1
  · rw [T_eq h]; exact p4.1
theorem PoolName.nameZ {k : Nat} {z : Str} (hk : k < 11) (h : PoolName k z) : nameB (z ++ Str.ofString "z") = true := by
  obtain ⟨l1, l2, m1, m2, h⟩ := h
  obtain ⟨p1, p2⟩ := pool_names l1 m1 k hk
  obtain ⟨p3, p4⟩ := p2 l2 m2
  have e : ∀ l, z.cps.toList = l → z ++ Str.ofString "z" = T (l ++ [122]) := fun l e => T_eq (by rw [appL, e]; rfl)
  rcases h with h | h | h
  · rw [e _ h]; exact p1.2
  · rw [e _ h]; exact p3.2
  · rw [e _ h]; exact p4.2
def isDig (c : Nat) : Bool := decide (48 ≤ c) && decide (c ≤ 57)
theorem pool_digs : (∀ l ∈ poolLetters.cps.toList, isDig l = false) ∧ ∀ k < 11, (dg k).filter isDig = dg k := by decide +kernel
theorem dg_inj : ∀ j < 11, ∀ k < 11, dg j = dg k → j = k := by decide +kernel
theorem dg_last : ∀ k < 11, ∃ c, (dg k).getLast? = some c ∧ isDig c = true := by decide +kernel
theorem PoolName.digs {k : Nat} {z : Str} (hk : k < 11) (h : PoolName k z) : z.cps.toList.filter isDig = dg k := by
  obtain ⟨l1, l2, m1, m2, h⟩ := h
  have e1 := pool_digs.1 l1 m1
  have e2 := pool_digs.1 l2 m2
  have e3 := pool_digs.2 k hk
  have e4 : isDig 46 = false := by decide
  rcases h with h | h | h <;> (rw [h]; simp [List.filter_append, List.filter_cons, e1, e2, e3, e4])
theorem PoolName.last {k : Nat} {z : Str} (hk : k < 11) (h : PoolName k z) : ∃ c, z.cps.toList.getLast? = some c ∧ isDig c = true := by
  obtain ⟨l1, l2, m1, m2, h⟩ := h
  obtain ⟨c, ec, hc⟩ := dg_last k hk
  refine ⟨c, ?_, hc⟩
  rcases h with h | h | h <;> (rw [h, List.getLast?_append, ec]; rfl)
theorem PoolOk.names {p : List Str} (h : PoolOk 11 p) : ∀ z ∈ p, nameB z = true := fun z m => by
  obtain ⟨i, hi, rfl⟩ := List.getElem_of_mem m
  exact (h.2 i _ (List.getElem?_eq_getElem hi)).name (by rw [← h.1]; exact hi)
theorem PoolOk.nodup {p : List Str} (h : PoolOk 11 p) : p.Nodup := by
  refine List.pairwise_iff_getElem.mpr fun i j hi hj hij e => ?_
  have hl := h.1
  have a := (h.2 i _ (List.getElem?_eq_getElem hi)).digs (by omega)
  have b := (h.2 j _ (List.getElem?_eq_getElem hj)).digs (by omega)
  rw [e, b] at a
  have := dg_inj j (by omega) i (by omega) a
  omega
theorem PoolOk.notZ {p : List Str} (h : PoolOk 11 p) (x : Str) : x ++ Str.ofString "z" ∉ p := fun m => by
  obtain ⟨i, hi, e⟩ := List.getElem_of_mem m
  have hl := h.1
  obtain ⟨c, ec, hc⟩ := (h.2 i _ (List.getElem?_eq_getElem hi)).last (by omega)
  rw [e, appL, List.getLast?_append] at ec
  have : (Str.ofString "z").cps.toList.getLast? = some 122 := by decide
  rw [this] at ec
  cases ec
  revert hc; decide
section
variable {P : Program} {w : World} {K : PySem.W.Frag} {mg : Str → Option Value} {base : Heap}
theorem ok_pool {k : Nat} (D : Pr P K mg) : FnOk P w K mg base CX0 (k + 2) D._law_pool.f D._law_pool.fd ["numbers", "total"] spPool := by
  have G__law_draw : FnOk P w K mg base CX0 (k + 1) D._law_draw.f D._law_draw.fd ["numbers", "many"] spDraw := ok_drawD D
  refine D._law_pool.F.ok sc__law_pool (fun vs H Q E h => ?_) (fun cdv A outer s H vs Q E hr h => ?_)
  · obtain ⟨a, rfl, _⟩ := h
    rfl
  · obtain ⟨a, rfl, hn, q⟩ := h
    refine ⟨_, (pss_cons (ps_set (i := 2) sc__law_pool.nd rfl (.inl rfl) pe_str)
      (pss_cons (ps_set (i := 3) sc__law_pool.nd rfl (.inl rfl) (pe_lst pa_nil))
      (pss_cons (ps_for PassesOwn.never rfl (pi_range1 (by rfl) D.B.range (pa_cons (pv 1) pa_nil)) (pg_name (i := 4) sc__law_pool.nd rfl (.inl rfl)) (pss_cons (ps_set (i := 5) sc__law_pool.nd rfl (.inl rfl) (pe_ix (r := rIxS) ix_str (pv 2) (pe_call G__law_draw (hr.mono (by omega)) (by rfl) D._law_draw.g D._law_draw.F.kp D._law_draw.b .nil pass0 (pa_cons (pv 0) (pa_cons pe_int pa_nil))) (fun _ _ => rfl))) (pss_cons (ps_set (i := 6) sc__law_pool.nd rfl (.inl rfl) (pe_call G__law_draw (hr.mono (by omega)) (by rfl) D._law_draw.g D._law_draw.F.kp D._law_draw.b .nil pass0 (pa_cons (pv 0) (pa_cons pe_int pa_nil)))) (pss_cons (ps_if (pt_cmpR op_eq (pv 6) pe_int (nomark _)) (pss_one (ps_set (i := 5) sc__law_pool.nd rfl (.inl rfl) (pe_op op_add_str (pe_op op_add_str (pv 5) pe_str) (pe_ix (r := rIxS) ix_str (pv 2) (pe_call G__law_draw (hr.mono (by omega)) (by rfl) D._law_draw.g D._law_draw.F.kp D._law_draw.b .nil pass0 (pa_cons (pv 0) (pa_cons pe_int pa_nil))) (fun _ _ => rfl))))) pss_nil) (pss_cons (ps_if (pt_cmpR op_eq (pv 6) pe_int (nomark _)) (pss_one (ps_set (i := 5) sc__law_pool.nd rfl (.inl rfl) (pe_op op_add_str (pv 5) (pe_ix (r := rIxS) ix_str (pv 2) (pe_call G__law_draw (hr.mono (by omega)) (by rfl) D._law_draw.g D._law_draw.F.kp D._law_draw.b .nil pass0 (pa_cons (pv 0) (pa_cons pe_int pa_nil))) (fun _ _ => rfl))))) pss_nil) (pss_one (ps_expr (pe_bm PySem.F.plainAttrs_list PySem.F.slot_list_append PySem.F.type_list_append mt_append (pv 3) (pa_cons (pe_op op_add_str (pv 5) (pe_callTy call_str_int (by rfl) D.B.str (by decide +kernel) (pa_cons (pv 4) pa_nil))) pa_nil)))))))))
      (pss_one (ps_ret (pv 3)))))), ?_⟩
    refine ⟨Nat.zero_le _, fun D nD => ?_⟩
    have hDa : D ≠ a := fun e => by
      obtain ⟨l, e2, _⟩ := hn
      rw [e, e2] at nD
      cases nD
    refine ⟨.int 11, rfl, 11, rfl, by decide, by decide, ?_⟩
    refine for_range (D := { nx := _, rt := Q }) (fun i σ H' => (∃ c4 c5 c6, σ = [some (.ref a), some (.int 11), some (.str poolLetters), some (.ref D), c4, c5, c6]) ∧ SameB a H H' ∧ NumsAt H' a ∧ ∃ p, H' D = some (.lst (txs p)) ∧ PoolOk i p) ?_ ?_ ?_
    · exact ⟨⟨_, _, _, rfl⟩, sameB_of (same_upd nD), hn.same (same_upd nD), [], upd_same, rfl, fun k z e => by simp at e⟩
    · rintro k σ H2 hk ⟨⟨c4, c5, c6, rfl⟩, s2, n2, p, e2, hp⟩
      have hk : k < 11 := hk
      rw [show (0 : Int) + k = k from Int.zero_add _]
      have hlt : ∀ r : Nat, r < 10 → ∃ c, poolLetters.cps.toList[r]? = some c ∧ c ∈ poolLetters.cps.toList := fun r hr => by
        have hl : poolLetters.cps.toList.length = 10 := by decide
        exact ⟨_, List.getElem?_eq_getElem (by omega), List.getElem_mem _⟩
      have hsz : poolLetters.length ≤ sizeLine := by decide
      have ek : (0 : Int) + k = k := Int.zero_add _
      obtain ⟨hd2, hd3⟩ := str_digit k (by omega)
      -- name = letters[..]
      refine ⟨_, rfl, .ref a, rfl, a, 10, rfl, by decide, n2, fun H3 r1 hr1 s3 n3 => ?_⟩
      obtain ⟨x1, g1, m1⟩ := hlt r1 hr1
      refine ⟨poolLetters, r1, x1, rfl, rfl, hsz, atI_nat g1, ?_⟩
      -- word
      refine ⟨.ref a, rfl, a, 6, rfl, by decide, n3, fun H4 r2 hr2 s4 n4 => ?_⟩
      have s24 := s2.trans (s3.trans s4)
      have e4 := s4 _ _ hDa (s3 _ _ hDa e2)
      refine ⟨_, rfl, rfl, _, rfl, ?_⟩
      by_cases h5 : r2 = 5
      · subst h5
        refine iteT ⟨_, rfl, _, _, rfl, rfl, by show 1 + 1 ≤ sizeLine; decide, _, rfl, .ref a, rfl, a, 10, rfl, by decide, n4, fun H5 r3 hr3 s5 n5 => ?_⟩
        obtain ⟨x2, g2, m2⟩ := hlt r3 hr3
        refine ⟨poolLetters, r3, x2, rfl, rfl, hsz, atI_nat g2, _, _, rfl, rfl, by rw [lenApp]; show 1 + 1 + 1 ≤ sizeLine; decide, ?_⟩
        refine ⟨_, rfl, rfl, _, rfl, ?_⟩
        refine iteF ?_
        have e5 := s5 _ _ hDa e4
        have s25 := s24.trans s5
        refine ⟨.ref D, rfl, .inl ⟨rfl, _, sqL e5⟩, .str ((⟨#[x1]⟩ : Str) ++ Str.ofString "." ++ ⟨#[x2]⟩), rfl, .int k, rfl, k, rfl, hd2, _, _, rfl, rfl, ?_, D, _, _, rfl, rfl, e5, by unfold txs; rw [List.length_map, hp.1, sizeLine_eq]; omega, ?_⟩
        · rw [sizeLine_eq]
          have : ((⟨#[x1]⟩ : Str) ++ Str.ofString "." ++ ⟨#[x2]⟩).length = 3 := by rw [lenApp, lenApp]; rfl
          omega
        refine ⟨⟨_, _, _, rfl⟩, fun b o n e => ?_, ?_, p ++ [((⟨#[x1]⟩ : Str) ++ Str.ofString "." ++ ⟨#[x2]⟩) ++ Str.ofString (toString (k : Int))], ?_, ?_⟩
        · rw [upd_ne (ne_of_none e nD)]
          exact s25 _ _ n e
        · obtain ⟨l, e, n⟩ := n5
          exact ⟨l, by rw [upd_ne hDa.symm]; exact e, n⟩
        · rw [upd_same]
          unfold txs
          rw [List.map_append]
          rfl
        · refine ⟨by rw [List.length_append, List.length_singleton, hp.1], fun j z hj => ?_⟩
          rcases Nat.lt_or_ge j k with hjk | hjk
          · rw [List.getElem?_append_left (by rw [hp.1]; exact hjk)] at hj
            exact hp.2 j z hj
          · have hjk2 := (List.getElem?_eq_some_iff.mp hj).1
            rw [List.length_append, List.length_singleton, hp.1] at hjk2
            have ej : j = k := by omega
            subst ej
            rw [List.getElem?_append_right (by rw [hp.1]; exact Nat.le_refl _), hp.1, Nat.sub_self] at hj
            have hz := Option.some.inj hj
            subst hz
            exact ⟨x1, x2, m1, m2, .inr (.inl (by rw [appL, appL, appL]; rfl))⟩
      rw [decide_eq_false (fun e => h5 (by have := V.int.inj e; omega))]
      refine iteF ⟨_, rfl, rfl, _, rfl, ?_⟩
      by_cases h4 : r2 = 4
      · subst h4
        refine iteT ⟨_, rfl, _, rfl, .ref a, rfl, a, 10, rfl, by decide, n4, fun H5 r3 hr3 s5 n5 => ?_⟩
        obtain ⟨x2, g2, m2⟩ := hlt r3 hr3
        refine ⟨poolLetters, r3, x2, rfl, rfl, hsz, atI_nat g2, _, _, rfl, rfl, by show 1 + 1 ≤ sizeLine; decide, ?_⟩
        have e5 := s5 _ _ hDa e4
        have s25 := s24.trans s5
        refine ⟨.ref D, rfl, .inl ⟨rfl, _, sqL e5⟩, .str ((⟨#[x1]⟩ : Str) ++ ⟨#[x2]⟩), rfl, .int k, rfl, k, rfl, hd2, _, _, rfl, rfl, ?_, D, _, _, rfl, rfl, e5, by unfold txs; rw [List.length_map, hp.1, sizeLine_eq]; omega, ?_⟩
        · rw [sizeLine_eq]
          have : ((⟨#[x1]⟩ : Str) ++ ⟨#[x2]⟩).length = 2 := by rw [lenApp]; rfl
          omega
        refine ⟨⟨_, _, _, rfl⟩, fun b o n e => ?_, ?_, p ++ [((⟨#[x1]⟩ : Str) ++ ⟨#[x2]⟩) ++ Str.ofString (toString (k : Int))], ?_, ?_⟩
        · rw [upd_ne (ne_of_none e nD)]
          exact s25 _ _ n e
        · obtain ⟨l, e, n⟩ := n5
          exact ⟨l, by rw [upd_ne hDa.symm]; exact e, n⟩
        · rw [upd_same]
          unfold txs
          rw [List.map_append]
          rfl
        · refine ⟨by rw [List.length_append, List.length_singleton, hp.1], fun j z hj => ?_⟩
          rcases Nat.lt_or_ge j k with hjk | hjk
          · rw [List.getElem?_append_left (by rw [hp.1]; exact hjk)] at hj
            exact hp.2 j z hj
          · have hjk2 := (List.getElem?_eq_some_iff.mp hj).1
            rw [List.length_append, List.length_singleton, hp.1] at hjk2
            have ej : j = k := by omega
            subst ej
            rw [List.getElem?_append_right (by rw [hp.1]; exact Nat.le_refl _), hp.1, Nat.sub_self] at hj
            have hz := Option.some.inj hj
            subst hz
            exact ⟨x1, x2, m1, m2, .inr (.inr (by rw [appL, appL]; rfl))⟩
      rw [decide_eq_false (fun e => h4 (by have := V.int.inj e; omega))]
      refine iteF ?_
      refine ⟨.ref D, rfl, .inl ⟨rfl, _, sqL e4⟩, .str (⟨#[x1]⟩ : Str), rfl, .int k, rfl, k, rfl, hd2, _, _, rfl, rfl, ?_, D, _, _, rfl, rfl, e4, by unfold txs; rw [List.length_map, hp.1, sizeLine_eq]; omega, ?_⟩
      · rw [sizeLine_eq]
        have : (⟨#[x1]⟩ : Str).length = 1 := rfl
        omega
      refine ⟨⟨_, _, _, rfl⟩, fun b o n e => ?_, ?_, p ++ [(⟨#[x1]⟩ : Str) ++ Str.ofString (toString (k : Int))], ?_, ?_⟩
      · rw [upd_ne (ne_of_none e nD)]
        exact s24 _ _ n e
      · obtain ⟨l, e, n⟩ := n4
        exact ⟨l, by rw [upd_ne hDa.symm]; exact e, n⟩
      · rw [upd_same]
        unfold txs
        rw [List.map_append]
        rfl
      · refine ⟨by rw [List.length_append, List.length_singleton, hp.1], fun j z hj => ?_⟩
        rcases Nat.lt_or_ge j k with hjk | hjk
        · rw [List.getElem?_append_left (by rw [hp.1]; exact hjk)] at hj
          exact hp.2 j z hj
        · have hjk2 := (List.getElem?_eq_some_iff.mp hj).1
          rw [List.length_append, List.length_singleton, hp.1] at hjk2
          have ej : j = k := by omega
          subst ej
          rw [List.getElem?_append_right (by rw [hp.1]; exact Nat.le_refl _), hp.1, Nat.sub_self] at hj
          have hz := Option.some.inj hj
          subst hz
          exact ⟨x1, x1, m1, m1, .inl (by rw [appL]; rfl)⟩
    · rintro σ H2 ⟨⟨c4, c5, c6, rfl⟩, s2, n2, p, e2, hp⟩
      exact ⟨.ref D, rfl, q D H2 p hp s2 n2 nD e2⟩
end
end K7

set_option Elab.async false
set_option linter.all false
set_option maxRecDepth 100000
set_option maxHeartbeats 4000000
namespace K7
open PySem PySem.Spec PyProof.Rows L2 GX NdefX
/-! ### all rows of so many names -/
def bitsV (m r : Nat) : List V := (List.range m).map fun k => V.int ((r.testBit (m - 1 - k)).toNat : Nat)
theorem bitsV_len (m r : Nat) : (bitsV m r).length = m := by rw [bitsV, List.length_map, List.length_range]
theorem bitsV_get {m r k : Nat} (h : k < m) : (bitsV m r)[k]? = some (V.int ((r.testBit (m - 1 - k)).toNat : Nat)) := by
  rw [bitsV, List.getElem?_map, List.getElem?_range h]; rfl
theorem bitsV_snoc (m r : Nat) (b : Bool) : bitsV m r ++ [V.int (b.toNat : Nat)] = bitsV (m + 1) (2 * r + b.toNat) := by
  unfold bitsV
  rw [List.range_succ, List.map_append, List.map_cons, List.map_nil]
  congr 1
  · refine List.map_congr_left fun k hk => ?_
    have hk := List.mem_range.mp hk
    rw [show m + 1 - 1 - k = m - 1 - k + 1 by omega, Nat.testBit_add_one]
    rw [show (2 * r + b.toNat) / 2 = r by cases b <;> simp <;> omega]
  · rw [show m + 1 - 1 - m = 0 by omega, Nat.testBit_zero]
    cases b <;> simp <;> omega
def RowsAt (H : Hp) (R : Addr) (m n : Nat) : Prop := ∃ as : List Addr, H R = some (.lst (as.map V.ref)) ∧ as.length = n ∧ ∀ (r : Nat) (a : Addr), as[r]? = some a → H a = some (.tup (bitsV m r))
theorem RowsAt.same {H H' : Hp} {R : Addr} {m n : Nat} (h : RowsAt H R m n) (s : Same H H') : RowsAt H' R m n := by
  obtain ⟨as, e, l, h⟩ := h
  exact ⟨as, s _ _ e, l, fun r a q => s _ _ (h r a q)⟩
theorem catT {K : PySem.W.Frag} {H : Hp} {a b : Addr} {xs ys : List V} {Q : VK} (ha : H a = some (.tup xs)) (hb : H b = some (.tup ys)) (hl : xs.length + ys.length ≤ 1000) (ny : ys ≠ []) (q : ∀ p H', Same H H' → H' p = some (.tup (xs ++ ys)) → Q (.ref p) H') : rCatA K (.ref a) (.ref b) H Q := by
  have es : sizeLine = 16777216 := sizeLine_eq
  refine ⟨a, b, xs, ys, rfl, rfl, sqT ha, sqT hb, by omega, fun e => ?_, fun _ e => absurd e ny, fun _ _ p np => q p _ (same_upd np) upd_same⟩
  subst e
  exact q b H (Same.refl _) hb
def spRows : Sp := fun vs H Q _ => ∃ m : Nat, vs = [.int (m : Nat)] ∧ m ≤ 10 ∧ ∀ R H1, Same H H1 → H R = none → RowsAt H1 R m (2 ^ m) → Q (.ref R) H1
theorem refs_snoc (as : List Addr) (p : Addr) : as.map V.ref ++ [V.ref p] = (as ++ [p]).map V.ref := by rw [List.map_append]; rfl
theorem refs_get {as : List Addr} {i : Nat} {x : V} (h : (as.map V.ref)[i]? = some x) : ∃ a, as[i]? = some a ∧ x = .ref a := by
  rw [List.getElem?_map] at h
  cases e : as[i]? with
  | none => rw [e] at h; cases h
  | some a => rw [e] at h; exact ⟨a, rfl, (Option.some.inj h).symm⟩
theorem get_snoc {α : Type} {l : List α} {x y : α} {i n : Nat} (hl : l.length = n) (h : (l ++ [x])[i]? = some y) : (i < n ∧ l[i]? = some y) ∨ (i = n ∧ y = x) := by
  rcases Nat.lt_or_ge i n with h1 | h1
  · rw [List.getElem?_append_left (by omega)] at h; exact .inl ⟨h1, h⟩
  · have h2 := (List.getElem?_eq_some_iff.mp h).1
    rw [List.length_append, List.length_singleton] at h2
    obtain rfl : i = n := by omega
    rw [List.getElem?_append_right (by omega), hl, Nat.sub_self] at h
    exact .inr ⟨rfl, (Option.some.inj h).symm⟩
section
variable {P : Program} {w : World} {K : PySem.W.Frag} {mg : Str → Option Value} {base : Heap}
theorem ok_rows {k : Nat} (D : Pr P K mg) : FnOk P w K mg base CX0 (k + 1) D._law_all_rows.f D._law_all_rows.fd ["many"] spRows := by
  refine D._law_all_rows.F.ok sc__law_all_rows (fun vs H Q E h => ?_) (fun cdv A outer s H vs Q E hr h => ?_)
  · obtain ⟨m, rfl, _⟩ := h
    rfl
  · obtain ⟨m, rfl, hm, q⟩ := h
    have es : sizeLine = 16777216 := sizeLine_eq
    refine ⟨_, (pss_cons (ps_set (i := 1) sc__law_all_rows.nd rfl (.inl rfl) (pe_lst (pa_cons (pe_tup pa_nil) pa_nil)))
      (pss_cons (ps_for PassesOwn.never rfl (pi_range1 (by rfl) D.B.range (pa_cons (pv 0) pa_nil)) (pg_name (i := 2) sc__law_all_rows.nd rfl (.inl rfl)) (pss_cons (ps_set (i := 3) sc__law_all_rows.nd rfl (.inl rfl) (pe_lst pa_nil)) (pss_cons (ps_for PassesOwn.never rfl (pi_list (pv 1)) (pg_name (i := 4) sc__law_all_rows.nd rfl (.inl rfl)) (pss_cons (ps_expr (pe_bm PySem.F.plainAttrs_list PySem.F.slot_list_append PySem.F.type_list_append mt_append (pv 3) (pa_cons (pe_op (r := rCatA K) op_catA (pv 4) (pe_tup (pa_cons pe_int pa_nil))) pa_nil))) (pss_one (ps_expr (pe_bm PySem.F.plainAttrs_list PySem.F.slot_list_append PySem.F.type_list_append mt_append (pv 3) (pa_cons (pe_op (r := rCatA K) op_catA (pv 4) (pe_tup (pa_cons pe_int pa_nil))) pa_nil)))))) (pss_one (ps_set (i := 1) sc__law_all_rows.nd rfl (.inl rfl) (pe_callTy call_list_of (by rfl) D.B.list (by decide +kernel) (pa_cons (pv 3) pa_nil)))))))
      (pss_one (ps_ret (pv 1))))), ?_⟩
    refine ⟨by show 0 ≤ sizeLine; omega, fun p0 np0 => ⟨by show 1 ≤ sizeLine; omega, fun R nR => ?_⟩⟩
    have s0 := (same_upd np0 (o := .tup [])).trans (same_upd nR (o := .lst [.ref p0]))
    have nHR : H R = none := none_of_same (same_upd np0) nR
    have r0 : RowsAt (upd (upd H p0 (.tup [])) R (.lst [.ref p0])) R 0 1 := ⟨[p0], upd_same, rfl, fun r a e => by
      have hi := (List.getElem?_eq_some_iff.mp e).1
      obtain rfl : r = 0 := by simpa using hi
      cases e
      exact (same_upd nR) _ _ upd_same⟩
    refine ⟨.int m, rfl, m, rfl, by omega, by omega, ?_⟩
    refine forRg (n := m) (fun i σ H' => ∃ (R' : Addr) (c2 c3 c4 : Option V), σ = [some (.int m), some (.ref R'), c2, c3, c4] ∧ Same H H' ∧ H R' = none ∧ RowsAt H' R' i (2 ^ i)) ⟨R, _, _, _, rfl, s0, nHR, r0⟩ ?_ ?_
    · rintro i σ H2 hi ⟨R', c2, c3, c4, rfl, s2, nR', as, eR, la, ha⟩
      have pi := pow_le12 (m := i) (by omega)
      refine ⟨by show 0 ≤ sizeLine; omega, fun L nL => ?_⟩
      have nHL : H L = none := none_of_same s2 nL
      have sL := same_upd nL (o := .lst [])
      refine ⟨.ref R', rfl, R', rfl, ⟨_, sqL (sL _ _ eR)⟩, forLs (fun j σ H' => (∃ c4, σ = [some (.int m), some (.ref R'), some (.int i), some (.ref L), c4]) ∧ Same H2 H' ∧ ∃ bs : List Addr, H' L = some (.lst (bs.map V.ref)) ∧ bs.length = 2 * j ∧ ∀ (r : Nat) (b : Addr), bs[r]? = some b → H' b = some (.tup (bitsV (i + 1) r))) (sL _ _ eR) ⟨⟨_, rfl⟩, sL, [], upd_same, rfl, fun r b e => by simp at e⟩ (fun j σ H' ⟨_, s3, _⟩ => s3 _ _ eR) ?_ ?_⟩
      · rintro j x σ H3 hx ⟨⟨c4, rfl⟩, s3, bs, eL, lb, hb⟩
        obtain ⟨a, ea, rfl⟩ := refs_get hx
        have hj := (List.getElem?_eq_some_iff.mp ea).1
        have hrow := s3 _ _ (ha j a ea)
        have step : ∀ (v : Bool) (H4 : Hp) (bs : List Addr) (n : Nat) (p : Addr) (H5 : Hp), Same H2 H4 → H4 L = some (.lst (bs.map V.ref)) → bs.length = n → n = 2 * j + v.toNat → (∀ (r : Nat) (b : Addr), bs[r]? = some b → H4 b = some (.tup (bitsV (i + 1) r))) → Same H4 H5 → H5 p = some (.tup (bitsV i j ++ [V.int (v.toNat : Nat)])) →
            Same H2 (upd H5 L (.lst ((bs ++ [p]).map V.ref))) ∧ (∀ (r : Nat) (b : Addr), (bs ++ [p])[r]? = some b → (upd H5 L (.lst ((bs ++ [p]).map V.ref))) b = some (.tup (bitsV (i + 1) r))) := by
          intro v H4 bs n p H5 s4 eL4 lb4 en hb4 s5 ep
          have off : ∀ b xs, H5 b = some (.tup xs) → (upd H5 L (.lst ((bs ++ [p]).map V.ref))) b = some (.tup xs) := fun b xs e => by
            rw [upd_ne (fun w => by rw [w, s5 _ _ eL4] at e; cases e)]; exact e
          refine ⟨fun b o e => by rw [upd_ne (ne_of_none e nL)]; exact s5 _ _ (s4 _ _ e), fun r b e => ?_⟩
          rcases get_snoc lb4 e with ⟨_, e⟩ | ⟨e1, e2⟩
          · exact off _ _ (s5 _ _ (hb4 r b e))
          · subst e1 e2
            rw [en, ← bitsV_snoc]
            exact off _ _ ep
        refine ⟨.ref L, rfl, .inl ⟨rfl, _, sqL eL⟩, .ref a, rfl, by show 1 ≤ sizeLine; omega, fun P1 nP1 => catT ((same_upd nP1) _ _ hrow) upd_same (by rw [bitsV_len]; simp; omega) (by simp) fun p H4 s4 ep => ?_⟩
        have s34 := (same_upd nP1 (o := .tup [V.int 0])).trans s4
        obtain ⟨t1, t2⟩ := step false H3 bs (2 * j) p H4 s3 eL lb (by simp) hb s34 ep
        refine ⟨L, _, _, rfl, rfl, s34 _ _ eL, by rw [List.length_map, lb]; omega, ?_⟩
        rw [refs_snoc]
        have eL5 : upd H4 L (.lst ((bs ++ [p]).map V.ref)) L = some (.lst ((bs ++ [p]).map V.ref)) := upd_same
        have hrow5 := t1 _ _ (ha j a ea)
        generalize upd H4 L (.lst ((bs ++ [p]).map V.ref)) = H5 at t1 t2 eL5 hrow5
        refine ⟨.ref L, rfl, .inl ⟨rfl, _, sqL eL5⟩, .ref a, rfl, by show 1 ≤ sizeLine; omega, fun P2 nP2 => catT ((same_upd nP2) _ _ hrow5) upd_same (by rw [bitsV_len]; simp; omega) (by simp) fun p' H6 s6 ep6 => ?_⟩
        have s56 := (same_upd nP2 (o := .tup [V.int 1])).trans s6
        have lb5 : (bs ++ [p]).length = 2 * j + 1 := by rw [List.length_append, lb]; rfl
        obtain ⟨u1, u2⟩ := step true H5 (bs ++ [p]) (2 * j + 1) p' H6 t1 eL5 lb5 (by simp) t2 s56 ep6
        refine ⟨L, _, _, rfl, rfl, s56 _ _ eL5, by rw [List.length_map, lb5]; omega, ?_⟩
        rw [refs_snoc]
        exact ⟨⟨_, rfl⟩, u1, _, upd_same, by rw [List.length_append, lb5]; simp; omega, u2⟩
      · rintro σ H3 ⟨⟨c4, rfl⟩, s3, bs, eL, lb, hb⟩
        rw [List.length_map, la] at lb
        refine ⟨.ref L, rfl, L, bs.map V.ref, rfl, .inl (sqL eL), fun p np => ⟨p, _, _, _, rfl, s2.trans (s3.trans (same_upd np)), none_of_same (s2.trans s3) np, bs, upd_same, by rw [lb, Nat.pow_succ, Nat.mul_comm], fun r b e => (same_upd np) _ _ (hb r b e)⟩⟩
    · rintro σ H2 ⟨R', c2, c3, c4, rfl, s2, nR', hR⟩
      exact ⟨.ref R', rfl, q R' H2 s2 nR' hR⟩
end
end K7

set_option Elab.async false
set_option linter.all false
set_option maxRecDepth 100000
set_option maxHeartbeats 4000000
namespace K7
open PySem PySem.Spec PyProof.Rows L2 GX NdefX
theorem SameB.tups {N : Addr} {H H' : Hp} (s : SameB N H H') (n : NumsAt H N) : TupK H H' := fun b xs e => s b _ (by
  rintro rfl
  obtain ⟨l, e2, _⟩ := n
  rw [e] at e2; cases e2) e
theorem SameB.dom {N : Addr} {H H' : Hp} (s : SameB N H H') (n : NumsAt H' N) : ∀ b, H b ≠ none → H' b ≠ none := fun b h e => by
  by_cases q : b = N
  · subst q
    obtain ⟨l, e2, _⟩ := n
    rw [e] at e2; cases e2
  · cases hb : H b with
    | none => exact h hb
    | some o => rw [s b o q hb] at e; cases e
theorem iteB {b : Bool} {p q : Prop} (h1 : p) (h2 : q) : if b = true then p else q := by
  cases b
  · exact h2
  · exact h1
theorem lvs_joint {w : Bool} {fs : List Fm} {g : Fm} : g ∈ (Fm.joint w fs).lvs ↔ ∃ f ∈ fs, g ∈ f.lvs := by
  show g ∈ lvsL fs ↔ _
  induction fs with
  | nil => simp [lvsL]
  | cons a r ih => simp only [lvsL, List.mem_append, ih, List.mem_cons, exists_eq_or_imp]
theorem nms_joint {w : Bool} {fs : List Fm} {x : Str} : x ∈ (Fm.joint w fs).nms ↔ ∃ f ∈ fs, x ∈ f.nms := by
  simp only [Fm.nms, List.mem_filterMap, lvs_joint]
  constructor
  · rintro ⟨g, ⟨f, mf, mg⟩, e⟩; exact ⟨f, mf, g, mg, e⟩
  · rintro ⟨f, mf, g, mg, e⟩; exact ⟨g, ⟨f, mf, mg⟩, e⟩
theorem eds_joint {w : Bool} {fs : List Fm} (h : ∀ f ∈ fs, f.eds = []) : (Fm.joint w fs).eds = [] := by
  refine List.filterMap_eq_nil_iff.mpr fun g mg => ?_
  obtain ⟨f, mf, mg⟩ := lvs_joint.mp mg
  exact List.filterMap_eq_nil_iff.mp (h f mf) g mg
theorem dh_name {H : Hp} {p : Addr} {x : Str} (e : H p = some (.tup [.str "name", .str x])) : Dh H (.ref p) (Fm.name x).data := .tup e (.cons (.str _) (.cons (.str _) .nil))
theorem dh_not {H : Hp} {p : Addr} {u : V} {f : Fm} (e : H p = some (.tup [.str "not", u])) (h : Dh H u f.data) : Dh H (.ref p) (Fm.not f).data := .tup e (.cons (.str _) (.cons h .nil))
theorem dh_joint {H : Hp} {p q : Addr} {w : Bool} {us : List V} {fs : List Fm} (e : H p = some (.tup [.str (jK w), .ref q])) (e2 : H q = some (.tup us)) (h : DhAll H us (fs.map Fm.data)) : Dh H (.ref p) (Fm.joint w fs).data :=
  .tup e (.cons (.str _) (.cons (.tup e2 (by rw [dataL_map]; exact h)) .nil))
/-- what a drawn formula is -/
structure Grown (f : Fm) (zs : List Str) (ed : Bool) (d c : Nat) : Prop where
  ok : f.ok = true
  dep : f.dep ≤ d
  cnt : f.cnt ≤ c
  eds : ed = false → f.eds = []
  nms : ∀ x ∈ f.nms, x ∈ zs
theorem Grown.joint {w : Bool} {fs : List Fm} {zs : List Str} {ed : Bool} {d c : Nat} (h : ∀ f ∈ fs, ∃ c', Grown f zs ed d c') (h2 : 2 ≤ fs.length) (hc : cntL fs ≤ c) : Grown (.joint w fs) zs ed (d + 1) (c + 1) where
  ok := by
    simp only [Fm.ok, Bool.and_eq_true, decide_eq_true_eq]
    exact ⟨h2, okL_all.mpr fun f m => (h f m).choose_spec.ok⟩
  dep := by
    simp only [Fm.dep]
    have := depL_le.mpr fun f m => (h f m).choose_spec.dep
    omega
  cnt := by simp only [Fm.cnt]; omega
  eds := fun e => eds_joint fun f m => (h f m).choose_spec.eds e
  nms := fun x m => by
    obtain ⟨f, mf, mx⟩ := nms_joint.mp m
    exact (h f mf).choose_spec.nms x mx
theorem Grown.mono {f : Fm} {zs : List Str} {ed : Bool} {d c d' c' : Nat} (h : Grown f zs ed d c) (hd : d ≤ d') (hc : c ≤ c') : Grown f zs ed d' c' := ⟨h.ok, Nat.le_trans h.dep hd, Nat.le_trans h.cnt hc, h.eds, h.nms⟩
def spLeaf (n d c : Nat) : Sp := fun vs H Q _ => ∃ (a na : Addr) (zs : List Str) (ed : Bool), vs = [.ref a, .ref na, .bl ed] ∧ H na = some (.lst (txs zs)) ∧ na ≠ a ∧ zs.length ≤ 1000 ∧ (∀ z ∈ zs, nameB z = true) ∧ NumsAt H a ∧
  ∀ u H' f, SameB a H H' → NumsAt H' a → Dh H' u f.data → Grown f zs ed d c → Q u H'
section
variable {P : Program} {w : World} {K : PySem.W.Frag} {mg : Str → Option Value} {base : Heap}
theorem ok_leaf {k : Nat} (D : Pr P K mg) : FnOk P w K mg base CX0 (k + 2) D._law_leaf.f D._law_leaf.fd ["numbers", "names", "edges"] (spLeaf 0 2 2) := by
  have G__law_draw : FnOk P w K mg base CX0 (k + 1) D._law_draw.f D._law_draw.fd ["numbers", "many"] spDraw := ok_drawD D
  refine D._law_leaf.F.ok sc__law_leaf (fun vs H Q E h => ?_) (fun cdv A outer s H vs Q E hr h => ?_)
  · obtain ⟨a, na, zs, ed, rfl, _⟩ := h
    rfl
  · obtain ⟨a, na, zs, ed, rfl, en, na_a, hz, hn, nn, q⟩ := h
    have es : sizeLine = 16777216 := sizeLine_eq
    refine ⟨_, (pss_cons (ps_set (i := 3) sc__law_leaf.nd rfl (.inl rfl) (pe_call G__law_draw (hr.mono (by omega)) (by rfl) D._law_draw.g D._law_draw.F.kp D._law_draw.b .nil pass0 (pa_cons (pv 0) (pa_cons pe_int pa_nil))))
      (pss_cons (ps_if (PW.pt (pw_or (pt_cmpR op_eq (pe_callB call_len (by rfl) D.B.len PySem.boot_len (pa_cons (pv 1) pa_nil)) pe_int (nomark _)) (pw_or1 (pt_cmpR op_eq (pv 3) pe_int (nomark _))))) (pss_one (ps_ret (pe_tup (pa_cons pe_str (pa_cons (pe_call G__law_draw (hr.mono (by omega)) (by rfl) D._law_draw.g D._law_draw.F.kp D._law_draw.b .nil pass0 (pa_cons (pv 0) (pa_cons pe_int pa_nil))) pa_nil))))) pss_nil)
      (pss_cons (ps_set (i := 4) sc__law_leaf.nd rfl (.inl rfl) (pe_ix (r := rIxL K) ix_list (pv 1) (pe_call G__law_draw (hr.mono (by omega)) (by rfl) D._law_draw.g D._law_draw.F.kp D._law_draw.b .nil pass0 (pa_cons (pv 0) (pa_cons (pe_callB call_len (by rfl) D.B.len PySem.boot_len (pa_cons (pv 1) pa_nil)) pa_nil))) (fun _ _ => rfl)))
      (pss_cons (ps_if (PW.pt (pw_and (pt_val (pv 2)) (pw_and1 (pt_cmpR op_eq (pv 3) pe_int (nomark _))))) (pss_one (ps_ret (pe_tup (pa_cons pe_str (pa_cons (pv 4) pa_nil))))) pss_nil)
      (pss_cons (ps_if (PW.pt (pw_and (pt_val (pv 2)) (pw_and1 (pt_cmpR op_eq (pv 3) pe_int (nomark _))))) (pss_one (ps_ret (pe_tup (pa_cons pe_str (pa_cons (pv 4) pa_nil))))) pss_nil)
      (pss_cons (ps_if (pt_cmpR op_in_seq (pv 3) (pe_tup (pa_cons pe_int (pa_cons pe_int (pa_cons pe_int (pa_cons pe_int pa_nil))))) (by rfl)) (pss_one (ps_ret (pe_tup (pa_cons pe_str (pa_cons (pe_tup (pa_cons pe_str (pa_cons (pv 4) pa_nil))) pa_nil))))) pss_nil)
      (pss_one (ps_ret (pe_tup (pa_cons pe_str (pa_cons (pv 4) pa_nil))))))))))), ?_⟩
    refine ⟨.ref a, rfl, a, 12, rfl, by decide, nn, fun H1 r1 hr1 s1 n1 => ?_⟩
    have en1 := s1 _ _ na_a en
    -- a bit
    have bit : ∀ (H : Hp) (Q : VK), NumsAt H a → (∀ u H' b, SameB a H H' → NumsAt H' a → Dh H' u (Fm.bit b).data → Q u H') → spDraw [.ref a, .int (2 : Nat)] H (fun v H' => 2 ≤ sizeLine ∧ ∀ p, H' p = none → Q (.ref p) (upd H' p (.tup [.str "bit", v]))) E0 := by
      intro H Q nn q
      refine ⟨a, 2, rfl, by decide, nn, fun H2 r2 hr2 s2 n2 => ⟨by decide, fun p np => q _ _ (decide (r2 = 1)) (s2.trans (sameB_of (same_upd np))) (n2.same (same_upd np)) (.tup upd_same (.cons (.str _) (.cons ?_ .nil)))⟩⟩
      obtain rfl | rfl : r2 = 0 ∨ r2 = 1 := by omega
      · exact .int _
      · exact .int _
    have gb : ∀ b, Grown (.bit b) zs ed 2 2 := fun b => ⟨rfl, by simp [Fm.dep], by simp [Fm.cnt], fun _ => rfl, fun x m => by simp [Fm.nms, Fm.lvs, nmOf] at m⟩
    refine ⟨.ref na, rfl, .ref na, (zs.length : Nat), rfl, .inl ⟨_, sqL en1, by rw [txs_len]⟩, rfl, _, rfl, ?_⟩
    rw [show decide (V.int (zs.length : Nat) = V.int 0) = decide (zs.length = 0) from intEq _ 0]
    by_cases h0 : zs.length = 0
    · rw [decide_eq_true h0]
      exact iteT ⟨.ref a, rfl, bit H1 Q n1 fun u H' b s2 n2 hu => q u H' _ (s1.trans s2) n2 hu (gb b)⟩
    rw [decide_eq_false h0]
    refine iteF ⟨.int r1, rfl, rfl, _, rfl, iteB ⟨.ref a, rfl, bit H1 Q n1 fun u H' b s2 n2 hu => q u H' _ (s1.trans s2) n2 hu (gb b)⟩ ?_⟩
    refine ⟨.ref na, rfl, .ref a, rfl, .ref na, rfl, .ref na, (zs.length : Nat), rfl, .inl ⟨_, sqL en1, by rw [txs_len]⟩, a, zs.length, rfl, by omega, n1, fun H2 r2 hr2 s2 n2 => ?_⟩
    have en2 := s2 _ _ na_a en1
    obtain ⟨z, ez⟩ : ∃ z, zs[r2]? = some z := ⟨zs[r2], List.getElem?_eq_getElem hr2⟩
    have mz := List.mem_of_getElem? ez
    refine ⟨na, txs zs, r2, .str z, rfl, rfl, sqL en2, atI_nat (by unfold txs; rw [List.getElem?_map, ez]; rfl), ?_⟩
    have s12 := s1.trans s2
    have two : (2 : Nat) ≤ sizeLine := by decide
    have ge : ∀ r, ed = true → Grown (.edge r z) zs ed 2 2 := fun r e => ⟨hn z mz, by simp [Fm.dep], by simp [Fm.cnt], fun e2 => (by rw [e] at e2; cases e2), fun x m => by
      simp [Fm.nms, Fm.lvs, nmOf] at m; subst m; exact mz⟩
    have gn : Grown (.name z) zs ed 2 2 := ⟨hn z mz, by simp [Fm.dep], by simp [Fm.cnt], fun _ => rfl, fun x m => by
      simp [Fm.nms, Fm.lvs, nmOf] at m; subst m; exact mz⟩
    have gnn : Grown (.not (.name z)) zs ed 2 2 := ⟨hn z mz, by simp [Fm.dep], by simp [Fm.cnt], fun _ => rfl, fun x m => by
      simp [Fm.nms, Fm.lvs, nmOf] at m; subst m; exact mz⟩
    have fin : ∀ {u : V} {H' : Hp} {f : Fm}, Same H2 H' → Dh H' u f.data → Grown f zs ed 2 2 → Q u H' := fun s h g => q _ _ _ (s12.trans (sameB_of s)) (n2.same s) h g
    cases ed
    case' false => refine ⟨_, rfl, false, rfl, iteF (iteF ⟨_, rfl, false, rfl, iteF (iteF ?_)⟩)⟩
    case' true =>
      refine ⟨_, rfl, true, rfl, iteT ⟨.int r1, rfl, rfl, _, rfl, iteB ⟨.str z, rfl, two, fun p np => fin (f := .edge true z) (same_upd np) (.tup upd_same (.cons (.str _) (.cons (.str _) .nil))) (ge true rfl)⟩
        ⟨_, rfl, true, rfl, iteT ⟨.int r1, rfl, rfl, _, rfl, iteB ⟨.str z, rfl, two, fun p np => fin (f := .edge false z) (same_upd np) (.tup upd_same (.cons (.str _) (.cons (.str _) .nil))) (ge false rfl)⟩ ?_⟩⟩⟩⟩
    all_goals
      refine ⟨.int r1, rfl, by decide, fun p np => ⟨p, [.int 1, .int 3, .int 5, .int 7], rfl, .inr (sqT upd_same), rfl, rfl, _, rfl, iteB ⟨.str z, rfl, two, fun p1 np1 => ⟨two, fun p2 np2 => ?_⟩⟩ ⟨.str z, rfl, two, fun p1 np1 => ?_⟩⟩⟩
      · exact fin ((same_upd np).trans ((same_upd np1).trans (same_upd np2))) (dh_not upd_same (dh_name ((same_upd np2) _ _ upd_same))) gnn
      · exact fin ((same_upd np).trans (same_upd np1)) (dh_name upd_same) gn
theorem ok_formula {k : Nat} (D : Pr P K mg) : FnOk P w K mg base CX0 (k + 3) D._law_formula.f D._law_formula.fd ["numbers", "names", "edges"] (spLeaf 0 8 17) := by
  have G__law_draw : FnOk P w K mg base CX0 (k + 1) D._law_draw.f D._law_draw.fd ["numbers", "many"] spDraw := ok_drawD D
  have G__law_leaf : FnOk P w K mg base CX0 (k + 2) D._law_leaf.f D._law_leaf.fd ["numbers", "names", "edges"] (spLeaf 0 2 2) := ok_leaf D
  refine D._law_formula.F.ok sc__law_formula (fun vs H Q E h => ?_) (fun cdv A outer s H vs Q E hr h => ?_)
  · obtain ⟨a, na, zs, ed, rfl, _⟩ := h
    rfl
  · obtain ⟨a, na, zs, ed, rfl, en, na_a, hz, hn, nn, q⟩ := h
    have es : sizeLine = 16777216 := sizeLine_eq
    have two : (2 : Nat) ≤ sizeLine := by decide
    refine ⟨_, (pss_cons (ps_set (i := 3) sc__law_formula.nd rfl (.inl rfl) (pe_call G__law_leaf (hr.mono (by omega)) (by rfl) D._law_leaf.g D._law_leaf.F.kp D._law_leaf.b .nil pass0 (pa_cons (pv 0) (pa_cons (pv 1) (pa_cons (pv 2) pa_nil)))))
      (pss_cons (ps_for PassesOwn.never rfl (pi_range1 (by rfl) D.B.range (pa_cons (pe_ix (r := rIxL K) ix_list (pe_lst (pa_cons pe_int (pa_cons pe_int (pa_cons pe_int (pa_cons pe_int (pa_cons pe_int (pa_cons pe_int pa_nil))))))) (pe_call G__law_draw (hr.mono (by omega)) (by rfl) D._law_draw.g D._law_draw.F.kp D._law_draw.b .nil pass0 (pa_cons (pv 0) (pa_cons pe_int pa_nil))) (fun _ _ => rfl)) pa_nil)) (pg_name (i := 4) sc__law_formula.nd rfl (.inl rfl)) (pss_cons (ps_set (i := 5) sc__law_formula.nd rfl (.inl rfl) (pe_call G__law_leaf (hr.mono (by omega)) (by rfl) D._law_leaf.g D._law_leaf.F.kp D._law_leaf.b .nil pass0 (pa_cons (pv 0) (pa_cons (pv 1) (pa_cons (pv 2) pa_nil))))) (pss_cons (ps_set (i := 6) sc__law_formula.nd rfl (.inl rfl) (pe_call G__law_draw (hr.mono (by omega)) (by rfl) D._law_draw.g D._law_draw.F.kp D._law_draw.b .nil pass0 (pa_cons (pv 0) (pa_cons pe_int pa_nil)))) (pss_one (ps_if (pt_cmpR op_in_seq (pv 6) (pe_tup (pa_cons pe_int (pa_cons pe_int pa_nil))) (by rfl)) (pss_one (ps_set (i := 3) sc__law_formula.nd rfl (.inl rfl) (pe_tup (pa_cons pe_str (pa_cons (pe_tup (pa_cons (pv 3) (pa_cons (pv 5) pa_nil))) pa_nil))))) (pss_one (ps_if (pt_cmpR op_in_seq (pv 6) (pe_tup (pa_cons pe_int (pa_cons pe_int pa_nil))) (by rfl)) (pss_one (ps_set (i := 3) sc__law_formula.nd rfl (.inl rfl) (pe_tup (pa_cons pe_str (pa_cons (pe_tup (pa_cons (pv 5) (pa_cons (pv 3) pa_nil))) pa_nil))))) (pss_one (ps_if (pt_cmpR op_eq (pv 6) pe_int (nomark _)) (pss_one (ps_set (i := 3) sc__law_formula.nd rfl (.inl rfl) (pe_tup (pa_cons pe_str (pa_cons (pe_tup (pa_cons pe_str (pa_cons (pe_tup (pa_cons (pv 3) (pa_cons (pv 5) pa_nil))) pa_nil))) pa_nil))))) (pss_one (ps_set (i := 3) sc__law_formula.nd rfl (.inl rfl) (pe_tup (pa_cons pe_str (pa_cons (pe_tup (pa_cons (pv 5) (pa_cons (pv 3) (pa_cons (pe_call G__law_leaf (hr.mono (by omega)) (by rfl) D._law_leaf.g D._law_leaf.F.kp D._law_leaf.b .nil pass0 (pa_cons (pv 0) (pa_cons (pv 1) (pa_cons (pv 2) pa_nil)))) pa_nil)))) pa_nil))))))))))))))
      (pss_one (ps_ret (pv 3))))), ?_⟩
    refine ⟨.ref a, rfl, .ref na, rfl, .bl ed, rfl, a, na, zs, ed, rfl, en, na_a, hz, hn, nn, fun v0 H1 f0 s1 n1 h0 g0 => ?_⟩
    refine ⟨by decide, fun L nL => ?_⟩
    have sL := same_upd nL (o := .lst [.int 0, .int 1, .int 1, .int 2, .int 2, .int 3])
    have s1' := s1.trans (sameB_of sL)
    refine ⟨.ref a, rfl, a, 6, rfl, by decide, n1.same sL, fun H2 r hr2 s2 n2 => ?_⟩
    have nLa : L ≠ a := fun e => by
      obtain ⟨l, e2, _⟩ := n1
      rw [e, e2] at nL; cases nL
    have eL2 := s2 _ _ nLa (upd_same (H := H1) (a := L) (o := .lst [.int 0, .int 1, .int 1, .int 2, .int 2, .int 3]))
    obtain ⟨n, hn3, ei⟩ : ∃ n : Nat, n ≤ 3 ∧ ([.int 0, .int 1, .int 1, .int 2, .int 2, .int 3] : List V)[r]? = some (.int (n : Nat)) := by
      match r, hr2 with
      | 0, _ => exact ⟨0, by omega, rfl⟩
      | 1, _ => exact ⟨1, by omega, rfl⟩
      | 2, _ => exact ⟨1, by omega, rfl⟩
      | 3, _ => exact ⟨2, by omega, rfl⟩
      | 4, _ => exact ⟨2, by omega, rfl⟩
      | 5, _ => exact ⟨3, by omega, rfl⟩
    refine ⟨L, _, r, .int (n : Nat), rfl, rfl, sqL eL2, atI_nat ei, n, rfl, by omega, by omega, ?_⟩
    have h02 : Dh H2 v0 f0.data := Dh.tups (s2.tups (n1.same sL)) _ _ (noL_data f0) (h0.same sL)
    have s12 := s1'.trans s2
    refine forRg (n := n) (fun i σ H' => ∃ (v : V) (f : Fm) (c4 c5 c6 : Option V), σ = [some (.ref a), some (.ref na), some (.bl ed), some v, c4, c5, c6] ∧ SameB a H H' ∧ NumsAt H' a ∧ Dh H' v f.data ∧ Grown f zs ed (2 + 2 * i) (2 + 5 * i)) ⟨v0, f0, _, _, _, rfl, s12, n2, h02, g0⟩ ?_ ?_
    · rintro i σ H3 hi ⟨v, f, c4, c5, c6, rfl, s3, n3, hf, g⟩
      refine ⟨.ref a, rfl, .ref na, rfl, .bl ed, rfl, a, na, zs, ed, rfl, s3 _ _ na_a en, na_a, hz, hn, n3, fun v1 H4 f1 s4 n4 h1 g1 => ?_⟩
      have hf4 : Dh H4 v f.data := Dh.tups (s4.tups n3) _ _ (noL_data f) hf
      refine ⟨.ref a, rfl, a, 6, rfl, by decide, n4, fun H5 r hr5 s5 n5 => ?_⟩
      have hf5 : Dh H5 v f.data := Dh.tups (s5.tups n4) _ _ (noL_data f) hf4
      have h15 : Dh H5 v1 f1.data := Dh.tups (s5.tups n4) _ _ (noL_data f1) h1
      have s35 := s3.trans (s4.trans s5)
      have gj : ∀ w, Grown (.joint w [f, f1]) zs ed (2 + 2 * i + 1) (2 + 5 * i + 3) := fun w => (Grown.joint (c := 2 + 5 * i + 2) (fun g' m => by
        rcases List.mem_cons.mp m with rfl | m
        · exact ⟨_, g⟩
        · rw [List.mem_singleton.mp m]; exact ⟨_, g1.mono (by omega) (Nat.le_refl _)⟩) (by simp) (by have := g.cnt; have := g1.cnt; simp only [cntL]; omega))
      have gj2 : ∀ w, Grown (.joint w [f1, f]) zs ed (2 + 2 * i + 1) (2 + 5 * i + 3) := fun w => (Grown.joint (c := 2 + 5 * i + 2) (fun g' m => by
        rcases List.mem_cons.mp m with rfl | m
        · exact ⟨_, g1.mono (by omega) (Nat.le_refl _)⟩
        · rw [List.mem_singleton.mp m]; exact ⟨_, g⟩) (by simp) (by have := g.cnt; have := g1.cnt; simp only [cntL]; omega))
      refine ⟨.int r, rfl, by decide, fun p np => ⟨p, [.int 0, .int 2], rfl, .inr (sqT upd_same), rfl, rfl, _, rfl, ?_⟩⟩
      have sp := same_upd np (o := .tup [.int 0, .int 2])
      refine iteB ⟨v, rfl, v1, rfl, two, fun p1 np1 => ⟨two, fun p2 np2 => ?_⟩⟩ ?_
      · have sq := sp.trans ((same_upd np1).trans (same_upd np2 (o := .tup [.str "and", .ref p1])))
        refine ⟨_, .joint false [f, f1], _, _, _, rfl, s35.trans (sameB_of sq), n5.same sq, dh_joint upd_same ((same_upd np2) _ _ upd_same) (.cons (hf5.same sq) (.cons (h15.same sq) .nil)), (gj false).mono (by omega) (by omega)⟩
      refine ⟨.int r, rfl, by decide, fun p' np' => ⟨p', [.int 1, .int 3], rfl, .inr (sqT upd_same), rfl, rfl, _, rfl, ?_⟩⟩
      have sp' := sp.trans (same_upd np' (o := .tup [.int 1, .int 3]))
      refine iteB ⟨v1, rfl, v, rfl, two, fun p1 np1 => ⟨two, fun p2 np2 => ?_⟩⟩ ?_
      · have sq := sp'.trans ((same_upd np1).trans (same_upd np2 (o := .tup [.str "or", .ref p1])))
        refine ⟨_, .joint true [f1, f], _, _, _, rfl, s35.trans (sameB_of sq), n5.same sq, dh_joint upd_same ((same_upd np2) _ _ upd_same) (.cons (h15.same sq) (.cons (hf5.same sq) .nil)), (gj2 true).mono (by omega) (by omega)⟩
      refine ⟨.int r, rfl, rfl, _, rfl, iteB ⟨v, rfl, v1, rfl, two, fun p1 np1 => ⟨two, fun p2 np2 => ⟨two, fun p3 np3 => ?_⟩⟩⟩ ?_⟩
      · have sq := sp'.trans ((same_upd np1).trans ((same_upd np2 (o := .tup [.str "or", .ref p1])).trans (same_upd np3 (o := .tup [.str "not", .ref p2]))))
        have e1 := (same_upd np3 (o := .tup [.str "not", .ref p2])) _ _ ((same_upd np2 (o := .tup [.str "or", .ref p1])) _ _ (upd_same (o := HO.tup [v, v1])))
        have e2 := (same_upd np3 (o := .tup [.str "not", .ref p2])) _ _ (upd_same (o := HO.tup [.str "or", .ref p1]))
        have gg := gj true
        refine ⟨_, .not (.joint true [f, f1]), _, _, _, rfl, s35.trans (sameB_of sq), n5.same sq, dh_not upd_same (dh_joint (w := true) e2 e1 (.cons (hf5.same sq) (.cons (h15.same sq) .nil))), ⟨gg.ok, ?_, ?_, gg.eds, gg.nms⟩⟩
        · have := gg.dep; simp only [Fm.dep] at this ⊢; omega
        · have := gg.cnt; simp only [Fm.cnt] at this ⊢; omega
      · refine ⟨v1, rfl, v, rfl, .ref a, rfl, .ref na, rfl, .bl ed, rfl, a, na, zs, ed, rfl, sp' _ _ (s35 _ _ na_a en), na_a, hz, hn, n5.same sp', fun v2 H6 f2 s6 n6 h2 g2 => ⟨by show 3 ≤ sizeLine; decide, fun p1 np1 => ⟨two, fun p2 np2 => ?_⟩⟩⟩
        have tk := s6.tups (n5.same sp')
        have hf6 : Dh H6 v f.data := Dh.tups tk _ _ (noL_data f) (hf5.same sp')
        have h16 : Dh H6 v1 f1.data := Dh.tups tk _ _ (noL_data f1) (h15.same sp')
        have sq := (same_upd np1 (o := .tup [v1, v, v2])).trans (same_upd np2 (o := .tup [.str "and", .ref p1]))
        refine ⟨_, .joint false [f1, f, f2], _, _, _, rfl, (s35.trans (sameB_of sp')).trans (s6.trans (sameB_of sq)), n6.same sq, dh_joint upd_same ((same_upd np2) _ _ upd_same) (.cons (h16.same sq) (.cons (hf6.same sq) (.cons (h2.same sq) .nil))), ?_⟩
        refine (Grown.joint (d := 2 + 2 * i + 1) (c := 2 + 5 * i + 4) (fun g' m => ?_) (by simp) (by have := g.cnt; have := g1.cnt; have := g2.cnt; simp only [cntL]; omega)).mono (by omega) (by omega)
        simp only [List.mem_cons, List.not_mem_nil, or_false] at m
        rcases m with rfl | rfl | rfl
        · exact ⟨_, g1.mono (by omega) (Nat.le_refl _)⟩
        · exact ⟨_, g.mono (by omega) (Nat.le_refl _)⟩
        · exact ⟨_, g2.mono (by omega) (Nat.le_refl _)⟩
    · rintro σ H3 ⟨v, f, c4, c5, c6, rfl, s3, n3, hf, g⟩
      exact ⟨v, rfl, q v H3 f s3 n3 hf (g.mono (by omega) (by omega))⟩
end
end K7

set_option Elab.async false
set_option linter.all false
set_option maxRecDepth 100000
set_option maxHeartbeats 4000000
namespace K7
open PySem PySem.Spec PyProof.Rows L2 GX NdefX
/-! ### a formula walked by a list of what is left -/
mutual
def Fm.pre : Fm → List Fm
  | .not f => .not f :: f.pre
  | .joint w fs => .joint w fs :: preR fs
  | .bit b => [.bit b]
  | .name x => [.name x]
  | .edge r x => [.edge r x]
def preR : List Fm → List Fm
  | [] => []
  | f :: r => preR r ++ f.pre
end
theorem preR_app (a b : List Fm) : preR (a ++ b) = preR b ++ preR a := by
  induction a with
  | nil => simp [preR]
  | cons f r ih => rw [List.cons_append, preR, ih, preR, List.append_assoc]
theorem pre_subs (f : Fm) : f.pre = f :: preR f.subs := by
  cases f <;> simp [Fm.pre, Fm.subs, preR]
theorem preR_snoc (fs : List Fm) (g : Fm) : preR (fs ++ [g]) = g :: preR (fs ++ g.subs) := by
  rw [preR_app, preR_app]
  show (preR [] ++ g.pre) ++ preR fs = _
  rw [pre_subs]; rfl
mutual
theorem pre_mem : ∀ f : Fm, ∀ g ∈ f.pre, g.cnt ≤ f.cnt ∧ (f.ok = true → g.ok = true)
  | .bit b, g, h => by simp only [Fm.pre, List.mem_singleton] at h; subst h; exact ⟨Nat.le_refl _, id⟩
  | .name b, g, h => by simp only [Fm.pre, List.mem_singleton] at h; subst h; exact ⟨Nat.le_refl _, id⟩
  | .edge r b, g, h => by simp only [Fm.pre, List.mem_singleton] at h; subst h; exact ⟨Nat.le_refl _, id⟩
  | .not f, g, h => by
    simp only [Fm.pre, List.mem_cons] at h
    rcases h with rfl | h
    · exact ⟨Nat.le_refl _, id⟩
    · have := pre_mem f g h; exact ⟨by simp only [Fm.cnt]; omega, this.2⟩
  | .joint w fs, g, h => by
    simp only [Fm.pre, List.mem_cons] at h
    rcases h with rfl | h
    · exact ⟨Nat.le_refl _, id⟩
    · have := preR_mem fs g h
      exact ⟨by simp only [Fm.cnt]; omega, fun o => this.2 (by simp only [Fm.ok, Bool.and_eq_true] at o; exact o.2)⟩
theorem preR_mem : ∀ fs : List Fm, ∀ g ∈ preR fs, g.cnt ≤ cntL fs ∧ (okL fs = true → g.ok = true)
  | [], g, h => by simp [preR] at h
  | f :: r, g, h => by
    simp only [preR, List.mem_append] at h
    rcases h with h | h
    · have := preR_mem r g h
      exact ⟨by simp only [cntL]; omega, fun o => this.2 (by simp only [okL, Bool.and_eq_true] at o; exact o.2)⟩
    · have := pre_mem f g h
      exact ⟨by simp only [cntL]; omega, fun o => this.2 (by simp only [okL, Bool.and_eq_true] at o; exact o.1)⟩
end
theorem cnt_zero {fs : List Fm} (h : cntL fs = 0) : fs = [] := by
  cases fs with
  | nil => rfl
  | cons f r => have := f.cnt_pos; simp only [cntL] at h; omega
theorem cnt_snoc (fs : List Fm) (g : Fm) : cntL (fs ++ [g]) = cntL (fs ++ g.subs) + 1 := by
  have := cnt_subs g
  rw [cntL_app, cntL_app]; simp only [cntL]; omega
/-- how a part is worked -/
structure Alg (α : Type) where
  b : Bool → α
  n : Str → α
  nt : α → α
  j : Bool → List α → α
variable {α : Type}
mutual
def Fm.fold (A : Alg α) : Fm → α
  | .bit x => A.b x
  | .name x => A.n x
  | .edge _ x => A.n x
  | .not f => A.nt (f.fold A)
  | .joint w fs => A.j w (foldL A fs)
def foldL (A : Alg α) : List Fm → List α
  | [] => []
  | f :: r => f.fold A :: foldL A r
end
theorem foldL_len (A : Alg α) : ∀ fs : List Fm, (foldL A fs).length = fs.length
  | [] => rfl
  | f :: r => by rw [foldL, List.length_cons, foldL_len A r, List.length_cons]
def Alg.step (A : Alg α) (g : Fm) (s : List α) : Option (List α) :=
  match g with
  | .bit x => some (s ++ [A.b x])
  | .name x => some (s ++ [A.n x])
  | .edge _ _ => none
  | .not _ => s.getLast?.map fun y => s.dropLast ++ [A.nt y]
  | .joint w fs => if fs.length ≤ s.length then some (s.take (s.length - fs.length) ++ [A.j w (s.drop (s.length - fs.length))]) else none
def Alg.runs (A : Alg α) : List Fm → List α → Option (List α)
  | [], s => some s
  | g :: r, s => (A.step g s).bind (A.runs r)
mutual
theorem runs_pre (A : Alg α) : ∀ (f : Fm), f.eds = [] → ∀ (rest : List Fm) (s : List α), A.runs (f.pre.reverse ++ rest) s = A.runs rest (s ++ [f.fold A])
  | .bit b, _, rest, s => rfl
  | .name x, _, rest, s => rfl
  | .edge r x, h, rest, s => by simp [Fm.eds, Fm.lvs, edOf] at h
  | .not f, h, rest, s => by
    rw [Fm.pre, List.reverse_cons, List.append_assoc, runs_pre A f h, List.singleton_append, Alg.runs, Alg.step, Fm.fold]
    simp
  | .joint w fs, h, rest, s => by
    rw [Fm.pre, List.reverse_cons, List.append_assoc, runs_preR A fs (eds_nil h), List.singleton_append, Alg.runs, Alg.step, Fm.fold]
    have e : (s ++ foldL A fs).length - fs.length = s.length := by rw [List.length_append, foldL_len]; omega
    rw [if_pos (by rw [List.length_append, foldL_len]; omega), e, List.take_left, List.drop_left]
    rfl
theorem runs_preR (A : Alg α) : ∀ (fs : List Fm), (∀ f ∈ fs, f.eds = []) → ∀ (rest : List Fm) (s : List α), A.runs ((preR fs).reverse ++ rest) s = A.runs rest (s ++ foldL A fs)
  | [], _, rest, s => by simp [preR, foldL]
  | f :: r, h, rest, s => by
    rw [preR, List.reverse_append, List.append_assoc, runs_pre A f (h f List.mem_cons_self), runs_preR A r (fun g m => h g (List.mem_cons_of_mem _ m)), foldL, List.append_assoc]
    rfl
end
theorem runs_all (A : Alg α) {f : Fm} (h : f.eds = []) : A.runs f.pre.reverse [] = some [f.fold A] := by
  have := runs_pre A f h [] []
  rw [List.append_nil] at this
  rw [this]; rfl
/-- one part of the row -/
theorem runs_step {A : Alg α} {l : List Fm} {i : Nat} {g : Fm} {s z : List α} (h : A.runs (l.drop i) s = some z) (e : l[i]? = some g) : ∃ s', A.step g s = some s' ∧ A.runs (l.drop (i + 1)) s' = some z := by
  obtain ⟨hi, rfl⟩ := List.getElem?_eq_some_iff.mp e
  rw [List.drop_eq_getElem_cons hi, Alg.runs] at h
  cases q : A.step l[i] s with
  | none => rw [q] at h; cases h
  | some s' => rw [q] at h; exact ⟨s', rfl, h⟩
def algW (ρ : Str → Bool) : Alg Bool := ⟨id, ρ, fun b => !b, fun w l => if w then l.any id else l.all id⟩
def algT : Alg Fm := ⟨fun b => .bit (!b), fun x => .not (.name x), .not, fun w l => .joint (!w) l⟩
mutual
theorem fold_ev (ρ : Str → Bool) : ∀ f : Fm, f.eds = [] → f.fold (algW ρ) = f.ev ρ
  | .bit b, _ => rfl
  | .name x, _ => rfl
  | .edge r x, h => by simp [Fm.eds, Fm.lvs, edOf] at h
  | .not f, h => by rw [Fm.fold, Fm.ev, fold_ev ρ f h]; rfl
  | .joint w fs, h => by
    obtain ⟨h1, h2⟩ := fold_evs ρ fs (eds_nil h)
    rw [Fm.fold, Fm.ev, ← h1, ← h2]; rfl
theorem fold_evs (ρ : Str → Bool) : ∀ fs : List Fm, (∀ f ∈ fs, f.eds = []) → (foldL (algW ρ) fs).any id = evAny ρ fs ∧ (foldL (algW ρ) fs).all id = evAll ρ fs
  | [], _ => ⟨rfl, rfl⟩
  | f :: r, h => by
    obtain ⟨h1, h2⟩ := fold_evs ρ r (fun g m => h g (List.mem_cons_of_mem _ m))
    rw [foldL, List.any_cons, List.all_cons, h1, h2, evAny, evAll, fold_ev ρ f (h f List.mem_cons_self)]
    exact ⟨rfl, rfl⟩
end
mutual
theorem fold_neg : ∀ f : Fm, f.eds = [] → f.fold algT = f.neg
  | .bit b, _ => rfl
  | .name x, _ => rfl
  | .edge r x, h => by simp [Fm.eds, Fm.lvs, edOf] at h
  | .not f, h => by rw [Fm.fold, Fm.neg, fold_neg f h]; rfl
  | .joint w fs, h => by rw [Fm.fold, Fm.neg, fold_negs fs (eds_nil h)]; rfl
theorem fold_negs : ∀ fs : List Fm, (∀ f ∈ fs, f.eds = []) → foldL algT fs = negL fs
  | [], _ => rfl
  | f :: r, h => by rw [foldL, negL, fold_neg f (h f List.mem_cons_self), fold_negs r (fun g m => h g (List.mem_cons_of_mem _ m))]
end
/-! data of rows -/
theorem dhAll_snoc {H : Hp} : ∀ {xs : List V} {fs : List Fm} {x : V} {f : Fm}, DhAll H xs (fs.map Fm.data) → Dh H x f.data → DhAll H (xs ++ [x]) ((fs ++ [f]).map Fm.data)
  | xs, fs, x, f, h, h2 => by rw [List.map_append]; exact DhAll.app _ _ _ _ h (.cons h2 .nil)
theorem dhAll_rev {H : Hp} : ∀ {fs : List Fm} {xs : List V}, DhAll H xs (fs.map Fm.data) → DhAll H xs.reverse (fs.reverse.map Fm.data)
  | [], _, .nil => .nil
  | f :: r, x :: xs, .cons h t => by
    rw [List.reverse_cons, List.reverse_cons]
    exact dhAll_snoc (dhAll_rev t) h
theorem dhAll_tups {H H1 : Hp} (s : TupK H H1) {xs : List V} {fs : List Fm} (h : DhAll H xs (fs.map Fm.data)) : DhAll H1 xs (fs.map Fm.data) :=
  DhAll.tups s _ _ (by rw [← dataL_map]; exact noL_dataL fs) h
theorem dhAll_len {H : Hp} {xs : List V} {fs : List Fm} (h : DhAll H xs (fs.map Fm.data)) : xs.length = fs.length := by
  have := h.length; rwa [List.length_map] at this
end K7

set_option Elab.async false
set_option linter.all false
set_option maxRecDepth 100000
set_option maxHeartbeats 4000000
namespace K7
open PySem PySem.Spec PyProof.Rows L2 GX NdefX
/-! ### _law_turned -/
structure Wk (H H' : Hp) (T O : Addr) (xs ys : List V) (fs os : List Fm) : Prop where
  s : Same H H'
  nT : H T = none
  nO : H O = none
  ne : T ≠ O
  t : H' T = some (.lst xs)
  o : H' O = some (.lst ys)
  dx : DhAll H' xs (fs.map Fm.data)
  dy : DhAll H' ys (os.map Fm.data)
theorem Wk.grow {H H' H'' : Hp} {T O : Addr} {xs ys : List V} {fs os : List Fm} (w : Wk H H' T O xs ys fs os) (s : Same H' H'') : Wk H H'' T O xs ys fs os :=
  ⟨w.s.trans s, w.nT, w.nO, w.ne, s _ _ w.t, s _ _ w.o, w.dx.same s, w.dy.same s⟩
theorem Wk.setT {H H' : Hp} {T O : Addr} {xs ys xs2 : List V} {fs os fs2 : List Fm} (w : Wk H H' T O xs ys fs os) (d : DhAll H' xs2 (fs2.map Fm.data)) : Wk H (upd H' T (.lst xs2)) T O xs2 ys fs2 os :=
  ⟨fun b q e => by rw [upd_ne (fun z => by rw [z, w.nT] at e; cases e)]; exact w.s _ _ e, w.nT, w.nO, w.ne, upd_same, by rw [upd_ne w.ne.symm]; exact w.o, dhAll_tups (tupK_upd w.t) d, dhAll_tups (tupK_upd w.t) w.dy⟩
theorem Wk.setO {H H' : Hp} {T O : Addr} {xs ys ys2 : List V} {fs os os2 : List Fm} (w : Wk H H' T O xs ys fs os) (d : DhAll H' ys2 (os2.map Fm.data)) : Wk H (upd H' O (.lst ys2)) T O xs ys2 fs os2 :=
  ⟨fun b q e => by rw [upd_ne (fun z => by rw [z, w.nO] at e; cases e)]; exact w.s _ _ e, w.nT, w.nO, w.ne, by rw [upd_ne w.ne]; exact w.t, upd_same, dhAll_tups (tupK_upd w.o) w.dx, dhAll_tups (tupK_upd w.o) d⟩
theorem Wk.off {H H' : Hp} {T O Pc : Addr} {xs ys us zs : List V} {fs os : List Fm} (w : Wk H H' T O xs ys fs os) (nP : H Pc = none) (p1 : Pc ≠ T) (p2 : Pc ≠ O) (e : H' Pc = some (.lst us)) : Wk H (upd H' Pc (.lst zs)) T O xs ys fs os :=
  ⟨fun b q e => by rw [upd_ne (fun z => by rw [z, nP] at e; cases e)]; exact w.s _ _ e, w.nT, w.nO, w.ne, by rw [upd_ne p1.symm]; exact w.t, by rw [upd_ne p2.symm]; exact w.o, dhAll_tups (tupK_upd e) w.dx, dhAll_tups (tupK_upd e) w.dy⟩
mutual
theorem pre_len : ∀ f : Fm, f.pre.length = f.cnt
  | .bit _ => rfl
  | .name _ => rfl
  | .edge _ _ => rfl
  | .not f => by simp only [Fm.pre, Fm.cnt, List.length_cons, pre_len f]
  | .joint _ fs => by simp only [Fm.pre, Fm.cnt, List.length_cons, preR_len fs]
theorem preR_len : ∀ fs : List Fm, (preR fs).length = cntL fs
  | [] => rfl
  | f :: r => by simp only [preR, cntL, List.length_append, pre_len f, preR_len r]; omega
end
theorem subs_len (f : Fm) : f.subs.length < f.cnt := by
  have : ∀ l : List Fm, l.length ≤ cntL l := fun l => by
    induction l with
    | nil => simp
    | cons a r ih => have := a.cnt_pos; simp only [List.length_cons, cntL]; omega
  have := this f.subs
  have := cnt_subs f
  omega
theorem inJ (k : Str) : inV (.str k) [.str "and", .str "or"] = (decide (k = "and") || decide (k = "or")) := by
  rw [show ([.str "and", .str "or"] : List V) = (["and", "or"] : List Str).map V.str from rfl, inStr]
  simp
def spLTurned : Sp := fun vs H Q _ => ∃ (v : V) (f : Fm), vs = [v] ∧ Dh H v f.data ∧ f.eds = [] ∧ f.cnt ≤ 600 ∧ ∀ u H1, Same H H1 → Dh H1 u f.neg.data → Q u H1
section
variable {P : Program} {w : World} {K : PySem.W.Frag} {mg : Str → Option Value} {base : Heap}
theorem lt_tail {k : Nat} (D : Pr P K mg) (f : Addr) (cdv : Value) (A : Around) (outer : List Env) (s : Shared) (H0 : Hp) (Q : VK) (E : XK) (hr : Room k (A.deeper (envOfC "_law_turned" (defScope s__law_turned) s.heap.objs.size f cdv))) :
    ∃ t, PSs (cxOf CX0 P w K mg base n__law_turned "_law_turned" (defScope s__law_turned) f cdv A outer s H0 E).nox ((defBody s__law_turned).drop 3) t ∧ ∀ (v : V) (T O : Addr) (c3 c4 c5 : Option V) (F : Fm) (ys : List V) (H H' : Hp), Wk H H' T O [] ys [] F.pre → F.eds = [] → F.cnt ≤ 600 → (∀ u H1, Same H H1 → Dh H1 u F.neg.data → Q u H1) →
      t { nx := fun _ H' => Q V.non H', rt := Q } [some v, some (.ref T), some (.ref O), c3, c4, c5, none, none] H' := by
  refine ⟨_, (pss_cons (ps_expr (pe_bm0 PySem.F.plainAttrs_list PySem.F.slot_list_reverse PySem.F.type_list_reverse mt_reverse (pv 2)))
      (pss_cons (ps_set (i := 6) sc__law_turned.nd rfl (.inl rfl) (pe_lst pa_nil))
      (pss_cons (ps_for PassesOwn.never rfl (pi_list (pv 2)) (pg_name (i := 4) sc__law_turned.nd rfl (.inl rfl)) (pss_one (ps_if (pt_cmpR op_eq (pe_ix (r := rIxT K) ix_tup (pv 4) pe_int (fun _ _ => rfl)) pe_str (nomark _)) (pss_one (ps_expr (pe_bm PySem.F.plainAttrs_list PySem.F.slot_list_append PySem.F.type_list_append mt_append (pv 6) (pa_cons (pe_tup (pa_cons pe_str (pa_cons (pe_op op_sub pe_int (pe_ix (r := rIxT K) ix_tup (pv 4) pe_int (fun _ _ => rfl))) pa_nil))) pa_nil)))) (pss_one (ps_if (pt_cmpR op_eq (pe_ix (r := rIxT K) ix_tup (pv 4) pe_int (fun _ _ => rfl)) pe_str (nomark _)) (pss_one (ps_expr (pe_bm PySem.F.plainAttrs_list PySem.F.slot_list_append PySem.F.type_list_append mt_append (pv 6) (pa_cons (pe_tup (pa_cons pe_str (pa_cons (pv 4) pa_nil))) pa_nil)))) (pss_one (ps_if (pt_cmpR op_eq (pe_ix (r := rIxT K) ix_tup (pv 4) pe_int (fun _ _ => rfl)) pe_str (nomark _)) (pss_one (ps_expr (pe_bm PySem.F.plainAttrs_list PySem.F.slot_list_append PySem.F.type_list_append mt_append (pv 6) (pa_cons (pe_tup (pa_cons pe_str (pa_cons (pe_bm0 PySem.F.plainAttrs_list PySem.F.slot_list_pop PySem.F.type_list_pop mt_pop (pv 6)) pa_nil))) pa_nil)))) (pss_cons (ps_set (i := 7) sc__law_turned.nd rfl (.inl rfl) (pe_lst pa_nil)) (pss_cons (ps_for PassesOwn.never rfl (pi_range1 (by rfl) D.B.range (pa_cons (pe_callB call_len (by rfl) D.B.len PySem.boot_len (pa_cons (pe_ix (r := rIxT K) ix_tup (pv 4) pe_int (fun _ _ => rfl)) pa_nil)) pa_nil)) (pg_name (i := 3) sc__law_turned.nd rfl (.inl rfl)) (pss_one (ps_expr (pe_bm PySem.F.plainAttrs_list PySem.F.slot_list_append PySem.F.type_list_append mt_append (pv 7) (pa_cons (pe_bm0 PySem.F.plainAttrs_list PySem.F.slot_list_pop PySem.F.type_list_pop mt_pop (pv 6)) pa_nil))))) (pss_cons (ps_expr (pe_bm0 PySem.F.plainAttrs_list PySem.F.slot_list_reverse PySem.F.type_list_reverse mt_reverse (pv 7))) (pss_one (ps_if (pt_cmpR op_eq (pe_ix (r := rIxT K) ix_tup (pv 4) pe_int (fun _ _ => rfl)) pe_str (nomark _)) (pss_one (ps_expr (pe_bm PySem.F.plainAttrs_list PySem.F.slot_list_append PySem.F.type_list_append mt_append (pv 6) (pa_cons (pe_tup (pa_cons pe_str (pa_cons (pe_callTy call_tuple_of (by rfl) D.B.tuple (by decide +kernel) (pa_cons (pv 7) pa_nil)) pa_nil))) pa_nil)))) (pss_one (ps_expr (pe_bm PySem.F.plainAttrs_list PySem.F.slot_list_append PySem.F.type_list_append mt_append (pv 6) (pa_cons (pe_tup (pa_cons pe_str (pa_cons (pe_callTy call_tuple_of (by rfl) D.B.tuple (by decide +kernel) (pa_cons (pv 7) pa_nil)) pa_nil))) pa_nil))))))))))))))))
      (pss_one (ps_ret (pe_ix (r := rIxL K) ix_list (pv 6) pe_int (fun _ _ => rfl))))))), ?_⟩
  intro v T O c3 c4 c5 F ys H H1 w1 he hc q
  have es : sizeLine = 16777216 := sizeLine_eq
  have two : (2 : Nat) ≤ sizeLine := by decide
  refine ⟨.ref O, rfl, .inl ⟨rfl, _, sqL w1.o⟩, O, ys, rfl, rfl, w1.o, ?_⟩
  have w2 := w1.setO (dhAll_rev w1.dy)
  generalize upd H1 O (.lst ys.reverse) = H2 at w2
  refine ⟨by show 0 ≤ sizeLine; omega, fun W nW => ?_⟩
  have sW := same_upd nW (o := .lst [])
  have w3 := w2.grow sW
  have nHW : H W = none := none_of_same w2.s nW
  have neW : O ≠ W := fun e => by rw [← e, w2.o] at nW; cases nW
  have eW : upd H2 W (.lst []) W = some (.lst []) := upd_same
  generalize upd H2 W (.lst []) = H3 at w3 eW
  obtain ⟨L, eL⟩ : ∃ L, F.pre.reverse = L := ⟨_, rfl⟩
  obtain ⟨yr, eyr⟩ : ∃ yr, ys.reverse = yr := ⟨_, rfl⟩
  rw [eL, eyr] at w3
  have lL : L.length ≤ 600 := by rw [← eL, List.length_reverse, pre_len]; exact hc
  have lyr : yr.length = L.length := dhAll_len w3.dy
  have run0 : algT.runs (L.drop 0) [] = some [F.neg] := by
    rw [List.drop_zero, ← eL, runs_all algT he, fold_neg F he]
  have w0 : Wk H H3 O W yr [] L [] := ⟨w3.s, w3.nO, nHW, neW, w3.o, eW, w3.dy, .nil⟩
  refine ⟨.ref O, rfl, O, rfl, ⟨_, sqL w3.o⟩, forLs (fun j σ H' => ∃ (ss : List V) (st : List Fm) (c3 c4 c5 c7 : Option V), σ = [some v, some (.ref T), some (.ref O), c3, c4, c5, some (.ref W), c7] ∧ Wk H H' O W yr ss L st ∧ algT.runs (L.drop j) st = some [F.neg] ∧ st.length ≤ j) w3.o ⟨[], [], _, _, _, _, rfl, w0, run0, Nat.le_refl _⟩ (fun j σ H' ⟨_, _, _, _, _, _, _, w, _⟩ => w.t) ?_ ?_⟩
  · rintro j x σ H4 hx ⟨ss, st, c3, c4, c5, c7, rfl, w4, run, hst⟩
    obtain ⟨g, eg, hg⟩ := dhAll_at w4.dx hx
    have hj := (List.getElem?_eq_some_iff.mp hx).1
    obtain ⟨s', es', run'⟩ := runs_step run eg
    have lss : ss.length = st.length := dhAll_len w4.dy
    have lst : ss.length < sizeLine := by omega
    have gm : g ∈ F.pre := by rw [← List.mem_reverse, eL]; exact List.mem_of_getElem? eg
    obtain ⟨a, rfl, cs⟩ := subs_dh hg
    -- what stands behind the turn
    have fin : ∀ (ss' : List V) (H5 : Hp) (c3 c5 c7 : Option V), Wk H H5 O W yr ss' L s' → s'.length ≤ j + 1 → ∃ (ss : List V) (st : List Fm) (d3 d4 d5 d7 : Option V), [some v, some (.ref T), some (.ref O), c3, some (.ref a), c5, some (.ref W), c7] = [some v, some (.ref T), some (.ref O), d3, d4, d5, some (.ref W), d7] ∧ Wk H H5 O W yr ss L st ∧ algT.runs (L.drop (j + 1)) st = some [F.neg] ∧ st.length ≤ j + 1 :=
      fun ss' H5 c3 c5 c7 w5 hl => ⟨ss', s', _, _, _, _, rfl, w5, run', hl⟩
    rcases cs with ⟨b, rfl, ea⟩ | ⟨z, rfl, ea⟩ | ⟨r, z, rfl, ea⟩ | ⟨g2, x2, rfl, ea, h2⟩ | ⟨w', gs, a2, zs, rfl, ea, ea2, hz⟩
    · obtain rfl : st ++ [.bit (!b)] = s' := Option.some.inj (show some (st ++ [Fm.bit (!b)]) = some s' from es')
      refine ⟨.ref a, rfl, a, _, 0, .str "bit", rfl, rfl, sqT ea, rfl, rfl, _, rfl, ?_⟩
      rw [strEq, decide_eq_true rfl]
      refine iteT ⟨.ref W, rfl, .inl ⟨rfl, _, sqL w4.o⟩, .ref a, rfl, a, _, 1, .int (if b then 1 else 0), rfl, rfl, sqT ea, rfl, 1, _, rfl, rfl, two, fun p np => ⟨W, ss, .ref p, rfl, rfl, (w4.grow (same_upd np)).o, lst, fin _ _ _ _ _ ((w4.grow (same_upd np)).setO (dhAll_snoc (w4.grow (same_upd np)).dy ?_)) (by rw [List.length_append, List.length_singleton]; omega)⟩⟩
      refine .tup upd_same (.cons (.str _) (.cons ?_ .nil))
      cases b <;> exact .int _
    · obtain rfl : st ++ [.not (.name z)] = s' := Option.some.inj (show some (st ++ [Fm.not (.name z)]) = some s' from es')
      refine ⟨.ref a, rfl, a, _, 0, .str "name", rfl, rfl, sqT ea, rfl, rfl, _, rfl, ?_⟩
      rw [strEq, decide_eq_false (by simp)]
      refine iteF ⟨.ref a, rfl, a, _, 0, .str "name", rfl, rfl, sqT ea, rfl, rfl, _, rfl, ?_⟩
      rw [strEq, decide_eq_true rfl]
      refine iteT ⟨.ref W, rfl, .inl ⟨rfl, _, sqL w4.o⟩, .ref a, rfl, two, fun p np => ⟨W, ss, .ref p, rfl, rfl, (w4.grow (same_upd np)).o, lst, fin _ _ _ _ _ ((w4.grow (same_upd np)).setO (dhAll_snoc (w4.grow (same_upd np)).dy ?_)) (by rw [List.length_append, List.length_singleton]; omega)⟩⟩
      exact dh_not upd_same (hg.same (same_upd np))
    · cases es'
    · refine ⟨.ref a, rfl, a, _, 0, .str "not", rfl, rfl, sqT ea, rfl, rfl, _, rfl, ?_⟩
      rw [strEq, decide_eq_false (by simp)]
      refine iteF ⟨.ref a, rfl, a, _, 0, .str "not", rfl, rfl, sqT ea, rfl, rfl, _, rfl, ?_⟩
      rw [strEq, decide_eq_false (by simp)]
      refine iteF ⟨.ref a, rfl, a, _, 0, .str "not", rfl, rfl, sqT ea, rfl, rfl, _, rfl, ?_⟩
      rw [strEq, decide_eq_true rfl]
      have ne : st ≠ [] := fun e => by rw [e] at es'; cases es'
      obtain ⟨g', y, ef, ex, ey, hy, dy'⟩ := dh_snoc w4.dy ne
      have e2 : st.dropLast ++ [.not g'] = s' := by
        have : algT.step (.not g2) (st.dropLast ++ [g']) = some s' := by rw [← ef]; exact es'
        simpa [Alg.step, algT] using this
      subst e2
      have w5 := w4.setO dy'
      have hy5 := Dh.tups (tupK_upd (ys := ss.dropLast) w4.o) _ _ (noL_data g') hy
      refine iteT ⟨.ref W, rfl, .inl ⟨rfl, _, sqL w4.o⟩, .ref W, rfl, .inl ⟨rfl, _, sqL w4.o⟩, W, ss, y, rfl, rfl, w4.o, ey, two, fun p np => ?_⟩
      generalize upd H4 W (.lst ss.dropLast) = H5 at w5 hy5 np
      have w6 := w5.grow (same_upd np (o := .tup [.str "not", y]))
      refine ⟨W, ss.dropLast, .ref p, rfl, rfl, w6.o, by rw [List.length_dropLast]; omega, fin _ _ _ _ _ (w6.setO (dhAll_snoc w6.dy (dh_not upd_same (hy5.same (same_upd np))))) (by rw [List.length_append, List.length_dropLast, List.length_singleton]; omega)⟩
    · have k1 : jK w' ≠ "bit" := by cases w' <;> simp [jK]
      have k2 : jK w' ≠ "name" := by cases w' <;> simp [jK]
      have k3 : jK w' ≠ "not" := by cases w' <;> simp [jK]
      refine ⟨.ref a, rfl, a, _, 0, .str (jK w'), rfl, rfl, sqT ea, rfl, rfl, _, rfl, ?_⟩
      rw [strEq, decide_eq_false k1]
      refine iteF ⟨.ref a, rfl, a, _, 0, .str (jK w'), rfl, rfl, sqT ea, rfl, rfl, _, rfl, ?_⟩
      rw [strEq, decide_eq_false k2]
      refine iteF ⟨.ref a, rfl, a, _, 0, .str (jK w'), rfl, rfl, sqT ea, rfl, rfl, _, rfl, ?_⟩
      rw [strEq, decide_eq_false k3]
      have lz : zs.length = gs.length := dhAll_len hz
      have lgs : gs.length ≤ 600 := by
        have h1 := (pre_mem F _ gm).1
        have h2 := subs_len (Fm.joint w' gs)
        have h3 : (Fm.joint w' gs).subs = gs := rfl
        rw [h3] at h2
        omega
      have hn : gs.length ≤ st.length := by
        by_cases h : gs.length ≤ st.length
        · exact h
        · simp only [Alg.step, if_neg h] at es'; cases es'
      have e2 : st.take (st.length - gs.length) ++ [.joint (!w') (st.drop (st.length - gs.length))] = s' := by
        simp only [Alg.step, if_pos hn] at es'
        exact Option.some.inj es'
      refine iteF ⟨by show 0 ≤ sizeLine; omega, fun Pc nP => ?_⟩
      have sP := same_upd nP (o := .lst [])
      have w5 := w4.grow sP
      have nHP : H Pc = none := none_of_same w4.s nP
      have p1 : Pc ≠ O := fun e => by rw [e, w4.t] at nP; cases nP
      have p2 : Pc ≠ W := fun e => by rw [e, w4.o] at nP; cases nP
      have ea5 := sP _ _ ea
      have ea25 := sP _ _ ea2
      have eP5 : upd H4 Pc (.lst []) Pc = some (.lst []) := upd_same
      generalize upd H4 Pc (.lst []) = H5 at w5 ea5 ea25 eP5
      refine ⟨.ref a, rfl, a, _, 1, .ref a2, rfl, rfl, sqT ea5, rfl, .ref a2, (zs.length : Nat), rfl, .inr ⟨_, sqT ea25, rfl⟩, zs.length, rfl, by omega, by omega, ?_⟩
      refine forRg (n := zs.length) (fun i σ H' => (∃ c3, σ = [some v, some (.ref T), some (.ref O), c3, some (.ref a), c5, some (.ref W), some (.ref Pc)]) ∧ H' a = some (.tup [.str (jK w'), .ref a2]) ∧ ∃ s1 s2 t1 t2, st = t1 ++ t2 ∧ t2.length = i ∧ Wk H H' O W yr s1 L t1 ∧ DhAll H' s2 (t2.map Fm.data) ∧ H' Pc = some (.lst s2.reverse)) ⟨⟨_, rfl⟩, ea5, ss, [], st, [], by simp, rfl, w5, .nil, eP5⟩ ?_ ?_
      · rintro i σ H6 hi ⟨⟨c3, rfl⟩, ea6, s1, s2, t1, t2, est, l2, w6, h26, eP6⟩
        have ne : t1 ≠ [] := fun e => by
          rw [e, List.nil_append] at est
          rw [est] at hn
          omega
        obtain ⟨g', y, ef, ex, ey, hy, dy'⟩ := dh_snoc w6.dy ne
        have w7 := w6.setO dy'
        have tk := tupK_upd (ys := s1.dropLast) w6.o
        have hy7 := Dh.tups tk _ _ (noL_data g') hy
        have h27 := dhAll_tups tk h26
        have ea7 := tk _ _ ea6
        have eP7 : upd H6 W (.lst s1.dropLast) Pc = some (.lst s2.reverse) := by rw [upd_ne p2]; exact eP6
        refine ⟨.ref Pc, rfl, .inl ⟨rfl, _, sqL eP6⟩, .ref W, rfl, .inl ⟨rfl, _, sqL w6.o⟩, W, s1, y, rfl, rfl, w6.o, ey, ?_⟩
        generalize upd H6 W (.lst s1.dropLast) = H7 at w7 hy7 h27 ea7 eP7
        refine ⟨Pc, s2.reverse, y, rfl, rfl, eP7, by rw [List.length_reverse, dhAll_len h27]; omega, ⟨_, rfl⟩, tupK_upd eP7 _ _ ea7, s1.dropLast, y :: s2, t1.dropLast, g' :: t2, ?_, by rw [List.length_cons, l2], w7.off nHP p1 p2 eP7, .cons (Dh.tups (tupK_upd eP7) _ _ (noL_data g') hy7) (dhAll_tups (tupK_upd eP7) h27), by rw [upd_same, List.reverse_cons]⟩
        rw [est]
        conv => lhs; rw [ef]
        simp
      · rintro σ H6 ⟨⟨c3, rfl⟩, ea6, s1, s2, t1, t2, est, l2, w6, h26, eP6⟩
        have et1 : st.take (st.length - gs.length) = t1 := by
          rw [est, List.length_append, show t1.length + t2.length - gs.length = t1.length by omega, List.take_left]
        have et2 : st.drop (st.length - gs.length) = t2 := by
          rw [est, List.length_append, show t1.length + t2.length - gs.length = t1.length by omega, List.drop_left]
        rw [et1, et2] at e2
        refine ⟨.ref Pc, rfl, .inl ⟨rfl, _, sqL eP6⟩, Pc, s2.reverse, rfl, rfl, eP6, ?_⟩
        rw [List.reverse_reverse]
        have w7 := w6.off (zs := s2) nHP p1 p2 eP6
        have h27 := dhAll_tups (tupK_upd (ys := s2) eP6) h26
        have ea7 := tupK_upd (ys := s2) eP6 _ _ ea6
        have eP7 : upd H6 Pc (.lst s2) Pc = some (.lst s2) := upd_same
        generalize upd H6 Pc (.lst s2) = H7 at w7 h27 ea7 eP7
        have l1 : s1.length < sizeLine := by
          have := dhAll_len w7.dy
          have : t1.length ≤ st.length := by rw [est, List.length_append]; omega
          omega
        have fin2 : ∀ (p q : Addr) (H8 : Hp), Same H7 H8 → H8 q = some (.tup s2) → H8 p = some (.tup [.str (jK (!w')), .ref q]) → ∃ (ss : List V) (st : List Fm) (d3 d4 d5 d7 : Option V), [some v, some (.ref T), some (.ref O), c3, some (.ref a), c5, some (.ref W), some (.ref Pc)] = [some v, some (.ref T), some (.ref O), d3, d4, d5, some (.ref W), d7] ∧ Wk H (upd H8 W (.lst (s1 ++ [.ref p]))) O W yr ss L st ∧ algT.runs (L.drop (j + 1)) st = some [F.neg] ∧ st.length ≤ j + 1 := by
          intro p q H8 s8 eq ep
          have w8 := w7.grow s8
          refine fin (s1 ++ [.ref p]) _ _ _ _ ?_ ?_
          · rw [← e2]
            exact w8.setO (dhAll_snoc w8.dy (dh_joint ep eq (h27.same s8)))
          · rw [← e2, List.length_append, List.length_singleton]
            have : t1.length ≤ st.length := by rw [est, List.length_append]; omega
            omega
        refine ⟨.ref a, rfl, a, _, 0, .str (jK w'), rfl, rfl, sqT ea7, rfl, rfl, _, rfl, ?_⟩
        cases w' with
        | false =>
          rw [strEq, decide_eq_true (show jK false = Str.ofString "and" from rfl)]
          refine iteT ⟨.ref W, rfl, .inl ⟨rfl, _, sqL w7.o⟩, .ref Pc, rfl, Pc, s2, rfl, .inl ⟨sqL eP7, fun q nq => ⟨two, fun p np => ⟨W, s1, .ref p, rfl, rfl, (w7.grow ((same_upd nq).trans (same_upd np))).o, l1, fin2 p q _ ((same_upd nq).trans (same_upd np)) ((same_upd np) _ _ upd_same) upd_same⟩⟩⟩⟩
        | true =>
          rw [strEq, decide_eq_false (by simp [jK])]
          refine iteF ⟨.ref W, rfl, .inl ⟨rfl, _, sqL w7.o⟩, .ref Pc, rfl, Pc, s2, rfl, .inl ⟨sqL eP7, fun q nq => ⟨two, fun p np => ⟨W, s1, .ref p, rfl, rfl, (w7.grow ((same_upd nq).trans (same_upd np))).o, l1, fin2 p q _ ((same_upd nq).trans (same_upd np)) ((same_upd np) _ _ upd_same) upd_same⟩⟩⟩⟩
  · rintro σ H4 ⟨ss, st, c3, c4, c5, c7, rfl, w4, run, hst⟩
    rw [lyr, List.drop_length] at run
    obtain rfl : st = [F.neg] := Option.some.inj run
    cases w4.dy with
    | cons hu tl =>
      rename_i u us
      cases tl
      exact ⟨.ref W, rfl, W, [u], 0, u, rfl, rfl, sqL w4.o, rfl, q u H4 w4.s hu⟩
theorem ok_lturned {k : Nat} (D : Pr P K mg) : FnOk P w K mg base CX0 (k + 1) D._law_turned.f D._law_turned.fd ["formula"] spLTurned := by
  refine D._law_turned.F.ok sc__law_turned (fun vs H Q E h => ?_) (fun cdv A outer s H vs Q E hr h => ?_)
  · obtain ⟨v, f, rfl, _⟩ := h
    rfl
  · obtain ⟨v, f, rfl, hd, he, hc, q⟩ := h
    have es : sizeLine = 16777216 := sizeLine_eq
    obtain ⟨tT, hT, rT⟩ := lt_tail (w := w) (base := base) D D._law_turned.f cdv A outer s H Q E hr
    refine ⟨_, (pss_cons (ps_set (i := 1) sc__law_turned.nd rfl (.inl rfl) (pe_lst (pa_cons (pv 0) pa_nil)))
      (pss_cons (ps_set (i := 2) sc__law_turned.nd rfl (.inl rfl) (pe_lst pa_nil))
      (pss_cons (ps_for PassesOwn.never rfl (pi_range1 (by rfl) D.B.range (pa_cons pe_int pa_nil)) (pg_name (i := 3) sc__law_turned.nd rfl (.inl rfl)) (pss_one (ps_if (pt_cmpR op_gt (pe_callB call_len (by rfl) D.B.len PySem.boot_len (pa_cons (pv 1) pa_nil)) pe_int (nomark _)) (pss_cons (ps_set (i := 4) sc__law_turned.nd rfl (.inl rfl) (pe_bm0 PySem.F.plainAttrs_list PySem.F.slot_list_pop PySem.F.type_list_pop mt_pop (pv 1))) (pss_cons (ps_expr (pe_bm PySem.F.plainAttrs_list PySem.F.slot_list_append PySem.F.type_list_append mt_append (pv 2) (pa_cons (pv 4) pa_nil))) (pss_one (ps_if (pt_cmpR op_eq (pe_ix (r := rIxT K) ix_tup (pv 4) pe_int (fun _ _ => rfl)) pe_str (nomark _)) (pss_one (ps_expr (pe_bm PySem.F.plainAttrs_list PySem.F.slot_list_append PySem.F.type_list_append mt_append (pv 1) (pa_cons (pe_ix (r := rIxT K) ix_tup (pv 4) pe_int (fun _ _ => rfl)) pa_nil)))) (pss_one (ps_if (pt_cmpR op_in_seq (pe_ix (r := rIxT K) ix_tup (pv 4) pe_int (fun _ _ => rfl)) (pe_tup (pa_cons pe_str (pa_cons pe_str pa_nil))) (by rfl)) (pss_one (ps_for PassesOwn.never rfl (pi_tup (pe_ix (r := rIxT K) ix_tup (pv 4) pe_int (fun _ _ => rfl))) (pg_name (i := 5) sc__law_turned.nd rfl (.inl rfl)) (pss_one (ps_expr (pe_bm PySem.F.plainAttrs_list PySem.F.slot_list_append PySem.F.type_list_append mt_append (pv 1) (pa_cons (pv 5) pa_nil)))))) pss_nil)))))) pss_nil)))
      hT))), ?_⟩
    refine ⟨v, rfl, by show 1 ≤ sizeLine; omega, fun T nT => ⟨by show 0 ≤ sizeLine; omega, fun O nO => ⟨600, rfl, by decide, by decide, ?_⟩⟩⟩
    have nHO : H O = none := none_of_same (same_upd nT) nO
    have neTO : T ≠ O := fun e => by rw [← e, upd_same] at nO; cases nO
    have w0 : Wk H (upd (upd H T (.lst [v])) O (.lst [])) T O [v] [] [f] [] :=
      ⟨(same_upd nT).trans (same_upd nO), nT, nHO, neTO, (same_upd nO) _ _ upd_same, upd_same, .cons (hd.same ((same_upd nT).trans (same_upd nO))) .nil, .nil⟩
    refine forRg (n := 600) (fun i σ H' => ∃ (xs ys : List V) (fs os : List Fm) (c3 c4 c5 : Option V), σ = [some v, some (.ref T), some (.ref O), c3, c4, c5, none, none] ∧ Wk H H' T O xs ys fs os ∧ os ++ preR fs = f.pre ∧ (fs = [] ∨ cntL fs + i = f.cnt) ∧ os.length ≤ i) ⟨_, _, _, _, _, _, _, rfl, w0, by simp [preR], .inr (by simp [cntL]), Nat.le_refl _⟩ ?_ ?_
    · rintro i σ H2 hi ⟨xs, ys, fs, os, c3, c4, c5, rfl, w2, hp, hcn, ho⟩
      have lx := dhAll_len w2.dx
      refine ⟨.ref T, rfl, .ref T, (xs.length : Nat), rfl, .inl ⟨_, sqL w2.t, rfl⟩, xs.length, 0, rfl, rfl, _, rfl, ?_⟩
      by_cases ne : fs = []
      · subst ne
        rw [decide_eq_false (by rw [lx]; simp)]
        exact iteF ⟨_, _, _, _, _, _, _, rfl, w2, hp, .inl rfl, by omega⟩
      have lf : 1 ≤ fs.length := by cases fs with | nil => exact absurd rfl ne | cons _ _ => simp
      rw [decide_eq_true (by rw [lx]; omega)]
      obtain ⟨g, y, ef, ex, ey, hy, dx'⟩ := dh_snoc w2.dx ne
      have hcn : cntL fs + i = f.cnt := hcn.resolve_left ne
      have ec := cnt_snoc fs.dropLast g
      rw [← ef] at ec
      have ep := preR_snoc fs.dropLast g
      rw [← ef] at ep
      have hp2 : (os ++ [g]) ++ preR (fs.dropLast ++ g.subs) = f.pre := by rw [← hp, ep]; simp
      have w3 := w2.setT dx'
      have hy3 := Dh.tups (tupK_upd (ys := xs.dropLast) w2.t) _ _ (noL_data g) hy
      have lxs : xs.length ≤ 600 := by
        rw [lx]
        have : ∀ l : List Fm, l.length ≤ cntL l := fun l => by
          induction l with
          | nil => simp
          | cons a r ih => have := a.cnt_pos; simp only [List.length_cons, cntL]; omega
        have := this fs
        omega
      refine iteT ⟨.ref T, rfl, .inl ⟨rfl, _, sqL w2.t⟩, T, xs, y, rfl, rfl, w2.t, ey, ?_⟩
      generalize upd H2 T (.lst xs.dropLast) = H3 at w3 hy3
      have w4 := w3.setO (dhAll_snoc w3.dy hy3)
      have hy4 := Dh.tups (tupK_upd (ys := ys ++ [y]) w3.o) _ _ (noL_data g) hy3
      refine ⟨.ref O, rfl, .inl ⟨rfl, _, sqL w3.o⟩, y, rfl, O, ys, y, rfl, rfl, w3.o, by have := dhAll_len w3.dy; omega, ?_⟩
      generalize upd H3 O (.lst (ys ++ [y])) = H4 at w4 hy4
      have ho2 : (os ++ [g]).length ≤ i + 1 := by rw [List.length_append, List.length_singleton]; omega
      obtain ⟨a, rfl, cs⟩ := subs_dh hy4
      have push : ∀ (zs : List V) (H5 : Hp), Wk H H5 T O (xs.dropLast ++ zs) (ys ++ [.ref a]) (fs.dropLast ++ g.subs) (os ++ [g]) → ∀ c5, ∃ (xs' ys' : List V) (fs' os' : List Fm) (d3 d4 d5 : Option V), [some v, some (.ref T), some (.ref O), some (.int i), some (.ref a), c5, none, none] = [some v, some (.ref T), some (.ref O), d3, d4, d5, none, none] ∧ Wk H H5 T O xs' ys' fs' os' ∧ os' ++ preR fs' = f.pre ∧ (fs' = [] ∨ cntL fs' + (i + 1) = f.cnt) ∧ os'.length ≤ i + 1 :=
        fun zs H5 w5 c5 => ⟨_, _, _, _, _, _, _, rfl, w5, hp2, .inr (by omega), ho2⟩
      rcases cs with cs | cs | cs | ⟨g2, x2, rfl, ea, h2⟩ | ⟨w2', gs, a2, zs, rfl, ea, ea2, hz⟩
      iterate 3
        obtain ⟨leaf, ea⟩ : g.isLeaf = true ∧ H4 a = some (.tup (g.key.map kV)) := by
          first
          | (obtain ⟨b, rfl, e⟩ := cs; exact ⟨rfl, e⟩)
          | (obtain ⟨b, c, rfl, e⟩ := cs; exact ⟨rfl, e⟩)
        obtain ⟨kk, k2, ek, n1, n2⟩ : ∃ kk k2, g.key = [.inr kk, k2] ∧ kk ≠ "not" ∧ (decide (kk = "and") || decide (kk = "or")) = false := by
          first
          | (obtain ⟨b, rfl, e⟩ := cs; exact ⟨_, _, rfl, by simp, by simp⟩)
          | (obtain ⟨b, c, rfl, e⟩ := cs; exact ⟨_, _, rfl, by cases b <;> simp [eK], by cases b <;> simp [eK]⟩)
        refine ⟨.ref a, rfl, a, g.key.map kV, 0, .str kk, rfl, rfl, sqT ea, by rw [ek]; rfl, rfl, _, rfl, ?_⟩
        rw [strEq, decide_eq_false n1]
        refine iteF ⟨.ref a, rfl, a, g.key.map kV, 0, .str kk, rfl, rfl, sqT ea, by rw [ek]; rfl, by show 2 ≤ sizeLine; omega, fun p np => ⟨p, [.str "and", .str "or"], rfl, .inr (sqT upd_same), rfl, rfl, _, rfl, ?_⟩⟩
        show if (if false = true then _ else inV (.str kk) [.str "and", .str "or"]) = true then _ else _
        rw [if_neg Bool.false_ne_true, inJ, n2]
        refine iteF (push [] _ ?_ _)
        rw [List.append_nil, (leaf_lvs leaf).2, List.append_nil]
        exact w4.grow (same_upd np)
      · refine ⟨.ref a, rfl, a, _, 0, .str "not", rfl, rfl, sqT ea, rfl, rfl, _, rfl, ?_⟩
        rw [strEq, decide_eq_true rfl]
        refine iteT ⟨.ref T, rfl, .inl ⟨rfl, _, sqL w4.t⟩, .ref a, rfl, a, _, 1, x2, rfl, rfl, sqT ea, rfl, T, _, x2, rfl, rfl, w4.t, by rw [List.length_dropLast]; omega, push [x2] _ ?_ _⟩
        exact w4.setT (dhAll_snoc w4.dx h2)
      · refine ⟨.ref a, rfl, a, _, 0, .str (jK w2'), rfl, rfl, sqT ea, rfl, rfl, _, rfl, ?_⟩
        rw [strEq, decide_eq_false (by cases w2' <;> simp [jK])]
        refine iteF ⟨.ref a, rfl, a, _, 0, .str (jK w2'), rfl, rfl, sqT ea, rfl, by show 2 ≤ sizeLine; omega, fun p np => ⟨p, [.str "and", .str "or"], rfl, .inr (sqT upd_same), rfl, rfl, _, rfl, ?_⟩⟩
        show if (if false = true then _ else inV (.str (jK w2')) [.str "and", .str "or"]) = true then _ else _
        rw [if_neg Bool.false_ne_true, inJ, show (decide (jK w2' = "and") || decide (jK w2' = "or")) = true by cases w2' <;> simp [jK]]
        have sp := same_upd np (o := .tup [.str "and", .str "or"])
        have w5 := w4.grow sp
        have ea5 := sp _ _ ea
        have ea25 := sp _ _ ea2
        have hz5 := hz.same sp
        generalize upd H4 p (.tup [.str "and", .str "or"]) = H5 at w5 ea5 ea25 hz5
        have lz := dhAll_len hz
        have lgs : zs.length ≤ 600 := by
          have : ∀ l : List Fm, l.length ≤ cntL l := fun l => by
            induction l with
            | nil => simp
            | cons a r ih => have := a.cnt_pos; simp only [List.length_cons, cntL]; omega
          have := this gs
          have e2 : (Fm.joint w2' gs).cnt = cntL gs + 1 := by simp [Fm.cnt]
          have := cntL_mem (l := fs) (f := Fm.joint w2' gs) (by rw [ef]; simp)
          omega
        refine iteT ⟨.ref a, rfl, a, _, 1, .ref a2, rfl, rfl, sqT ea5, rfl, a2, rfl, ⟨_, sqT ea25⟩, forTt (fun j σ H' => (∃ c5, σ = [some v, some (.ref T), some (.ref O), some (.int i), some (.ref a), c5, none, none]) ∧ Wk H H' T O (xs.dropLast ++ zs.take j) (ys ++ [.ref a]) (fs.dropLast ++ gs.take j) (os ++ [.joint w2' gs]) ∧ DhAll H' zs (gs.map Fm.data) ∧ H' a2 = some (.tup zs)) ea25 ⟨⟨_, rfl⟩, by rw [List.take_zero, List.take_zero, List.append_nil, List.append_nil]; exact w5, hz5, ea25⟩ (fun j σ H' o ⟨_, _, _, e⟩ e2 => by rw [ea25] at e2; cases e2; exact e) ?_ ?_⟩
        · rintro j x σ H6 hx ⟨⟨c5, rfl⟩, w6, hz6, ea6⟩
          obtain ⟨g1, eg, hg⟩ := dhAll_at hz6 hx
          have hj := (List.getElem?_eq_some_iff.mp hx).1
          refine ⟨.ref T, rfl, .inl ⟨rfl, _, sqL w6.t⟩, x, rfl, T, _, x, rfl, rfl, w6.t, by rw [List.length_append, List.length_dropLast, List.length_take]; omega, ⟨_, rfl⟩, ?_, ?_, ?_⟩
          · rw [takeS hx, takeS eg, ← List.append_assoc, ← List.append_assoc]
            exact w6.setT (dhAll_snoc w6.dx hg)
          · exact dhAll_tups (tupK_upd w6.t) hz6
          · rw [upd_ne (fun e => by rw [e, w6.t] at ea6; cases ea6)]; exact ea6
        · rintro σ H6 ⟨⟨c5, rfl⟩, w6, hz6, ea6⟩
          refine push zs H6 ?_ _
          rw [List.take_length] at w6
          rw [lz, List.take_length] at w6
          exact w6
    · rintro σ H2 ⟨xs, ys, fs, os, c3, c4, c5, rfl, w2, hp, hcn, ho⟩
      have e0 : fs = [] := hcn.elim id fun e => cnt_zero (by omega)
      subst e0
      have ex : xs = [] := List.eq_nil_of_length_eq_zero (dhAll_len w2.dx)
      subst ex
      rw [preR, List.append_nil] at hp
      subst hp
      exact rT v T O c3 c4 c5 f ys H H2 w2 he hc q
end
end K7

set_option Elab.async false
set_option linter.all false
set_option maxRecDepth 100000
set_option maxHeartbeats 4000000
namespace K7
open PySem PySem.Spec PyProof.Rows L2 GX NdefX
/-! ### _law_worth -/
def bls (l : List Bool) : List V := l.map fun b => V.int (b.toNat : Nat)
theorem bls_snoc (l : List Bool) (b : Bool) : bls l ++ [V.int (b.toNat : Nat)] = bls (l ++ [b]) := by unfold bls; rw [List.map_append]; rfl
theorem bls_len (l : List Bool) : (bls l).length = l.length := List.length_map ..
theorem bls_last {l : List Bool} (ne : l ≠ []) : ∃ l' b, l = l' ++ [b] ∧ (bls l).dropLast = bls l' ∧ (bls l)[(bls l).length - 1]? = some (V.int (b.toNat : Nat)) := by
  refine ⟨l.dropLast, l.getLast ne, (List.dropLast_concat_getLast ne).symm, ?_, ?_⟩
  · unfold bls; rw [List.map_dropLast]
  · conv => lhs; rw [← List.dropLast_concat_getLast ne]
    rw [← bls_snoc, List.length_append, List.length_singleton, Nat.add_sub_cancel]
    rw [List.getElem?_append_right (Nat.le_refl _), Nat.sub_self]; rfl
def ct (l : List Bool) : Nat := (l.map Bool.toNat).sum
theorem ct_cons (b : Bool) (l : List Bool) : ct (b :: l) = b.toNat + ct l := by simp [ct]
theorem ct_le (l : List Bool) : ct l ≤ l.length := by
  induction l with
  | nil => simp [ct]
  | cons b r ih => rw [ct_cons, List.length_cons]; cases b <;> simp <;> omega
theorem ct_all (l : List Bool) : decide (ct l = l.length) = l.all id := by
  induction l with
  | nil => rfl
  | cons b r ih =>
    have := ct_le r
    rw [ct_cons, List.length_cons, List.all_cons, ← ih]
    cases b with
    | true => simp; omega
    | false => simp; omega
theorem ct_any (l : List Bool) : decide (0 < ct l) = l.any id := by
  induction l with
  | nil => rfl
  | cons b r ih =>
    rw [ct_cons, List.any_cons, ← ih]
    cases b with
    | true => simp; omega
    | false => simp
mutual
theorem pre_nms : ∀ f : Fm, ∀ g ∈ f.pre, ∀ x ∈ g.nms, x ∈ f.nms
  | .bit b, g, h, x, m => by simp only [Fm.pre, List.mem_singleton] at h; subst h; exact m
  | .name b, g, h, x, m => by simp only [Fm.pre, List.mem_singleton] at h; subst h; exact m
  | .edge r b, g, h, x, m => by simp only [Fm.pre, List.mem_singleton] at h; subst h; exact m
  | .not f, g, h, x, m => by
    simp only [Fm.pre, List.mem_cons] at h
    rcases h with rfl | h
    · exact m
    · exact pre_nms f g h x m
  | .joint w fs, g, h, x, m => by
    simp only [Fm.pre, List.mem_cons] at h
    rcases h with rfl | h
    · exact m
    · obtain ⟨f, mf, mx⟩ := preR_nms fs g h x m
      exact nms_mem mf x mx
theorem preR_nms : ∀ fs : List Fm, ∀ g ∈ preR fs, ∀ x ∈ g.nms, ∃ f ∈ fs, x ∈ f.nms
  | [], g, h, x, m => by simp [preR] at h
  | f :: r, g, h, x, m => by
    simp only [preR, List.mem_append] at h
    rcases h with h | h
    · obtain ⟨f', mf, mx⟩ := preR_nms r g h x m
      exact ⟨f', List.mem_cons_of_mem _ mf, mx⟩
    · exact ⟨f, List.mem_cons_self, pre_nms f g h x m⟩
end
structure Ws (H H' : Hp) (O W : Addr) (yr : List V) (L : List Fm) (st : List Bool) : Prop where
  s : Same H H'
  nO : H O = none
  nW : H W = none
  ne : O ≠ W
  o : H' O = some (.lst yr)
  w : H' W = some (.lst (bls st))
  dy : DhAll H' yr (L.map Fm.data)
theorem Ws.setW {H H' : Hp} {O W : Addr} {yr : List V} {L : List Fm} {st st2 : List Bool} {zs : List V} (w : Ws H H' O W yr L st) (e : zs = bls st2) : Ws H (upd H' W (.lst zs)) O W yr L st2 :=
  ⟨fun b q e => by rw [upd_ne (fun z => by rw [z, w.nW] at e; cases e)]; exact w.s _ _ e, w.nO, w.nW, w.ne, by rw [upd_ne w.ne]; exact w.o, by rw [upd_same, e], dhAll_tups (tupK_upd w.w) w.dy⟩
def spWorth : Sp := fun vs H Q _ => ∃ (v sv : V) (bd : Addr) (f : Fm) (kvs : List (L2.Key × V)) (ρ : Str → Bool), vs = [v, .ref bd, sv] ∧ Dh H v f.data ∧ f.eds = [] ∧ f.cnt ≤ 600 ∧ H bd = some (.dK kvs) ∧ (∀ x ∈ f.nms, valV kvs (.inr x) = some (.int ((ρ x).toNat : Nat))) ∧
  ∀ H1, Same H H1 → Q (.int ((f.ev ρ).toNat : Nat)) H1
section
variable {P : Program} {w : World} {K : PySem.W.Frag} {mg : Str → Option Value} {base : Heap}
theorem lw_tail {k : Nat} (D : Pr P K mg) (f : Addr) (cdv : Value) (A : Around) (outer : List Env) (s : Shared) (H0 : Hp) (Q : VK) (E : XK) (hr : Room k (A.deeper (envOfC "_law_worth" (defScope s__law_worth) s.heap.objs.size f cdv))) :
    ∃ t, PSs (cxOf CX0 P w K mg base n__law_worth "_law_worth" (defScope s__law_worth) f cdv A outer s H0 E).nox ((defBody s__law_worth).drop 3) t ∧ ∀ (v sv : V) (bd T O : Addr) (c5 c6 c7 : Option V) (F : Fm) (ys : List V) (kvs : List (L2.Key × V)) (ρ : Str → Bool) (H H' : Hp), Wk H H' T O [] ys [] F.pre → F.eds = [] → F.cnt ≤ 600 → H bd = some (.dK kvs) → (∀ x ∈ F.nms, valV kvs (.inr x) = some (.int ((ρ x).toNat : Nat))) → (∀ H1, Same H H1 → Q (.int ((F.ev ρ).toNat : Nat)) H1) →
      t { nx := fun _ H' => Q V.non H', rt := Q } [some v, some (.ref bd), some sv, some (.ref T), some (.ref O), c5, c6, c7, none, none, none] H' := by
  refine ⟨_, (pss_cons (ps_expr (pe_bm0 PySem.F.plainAttrs_list PySem.F.slot_list_reverse PySem.F.type_list_reverse mt_reverse (pv 4)))
      (pss_cons (ps_set (i := 8) sc__law_worth.nd rfl (.inl rfl) (pe_lst pa_nil))
      (pss_cons (ps_for PassesOwn.never rfl (pi_list (pv 4)) (pg_name (i := 6) sc__law_worth.nd rfl (.inl rfl)) (pss_cons (ps_set (i := 9) sc__law_worth.nd rfl (.inl rfl) (pe_ix (r := rIxT K) ix_tup (pv 6) pe_int (fun _ _ => rfl))) (pss_one (ps_if (pt_cmpR op_eq (pv 9) pe_str (nomark _)) (pss_one (ps_expr (pe_bm PySem.F.plainAttrs_list PySem.F.slot_list_append PySem.F.type_list_append mt_append (pv 8) (pa_cons (pe_ix (r := rIxT K) ix_tup (pv 6) pe_int (fun _ _ => rfl)) pa_nil)))) (pss_one (ps_if (pt_cmpR op_eq (pv 9) pe_str (nomark _)) (pss_one (ps_expr (pe_bm PySem.F.plainAttrs_list PySem.F.slot_list_append PySem.F.type_list_append mt_append (pv 8) (pa_cons (pe_dget (L2.hu_of hr) (pv 1) (pe_ix (r := rIxT K) ix_tup (pv 6) pe_int (fun _ _ => rfl)) (fun _ _ => rfl)) pa_nil)))) (pss_one (ps_if (pt_cmpR op_eq (pv 9) pe_str (nomark _)) (pss_one (ps_expr (pe_bm PySem.F.plainAttrs_list PySem.F.slot_list_append PySem.F.type_list_append mt_append (pv 8) (pa_cons (pe_callTy call_int1 (by rfl) D.B.int (by decide +kernel) (pa_cons (pe_and (pe_cmpR op_eq (pe_dget (L2.hu_of hr) (pv 1) (pe_ix (r := rIxT K) ix_tup (pv 6) pe_int (fun _ _ => rfl)) (fun _ _ => rfl)) pe_int (nomark _)) (pe_one (pe_cmpR op_eq (pe_dget2 (L2.hu_of hr) (pv 2) (pe_ix (r := rIxT K) ix_tup (pv 6) pe_int (fun _ _ => rfl)) pe_int ⟨by rfl, by rfl, by rfl, by rfl⟩) pe_int (nomark _)))) pa_nil)) pa_nil)))) (pss_one (ps_if (pt_cmpR op_eq (pv 9) pe_str (nomark _)) (pss_one (ps_expr (pe_bm PySem.F.plainAttrs_list PySem.F.slot_list_append PySem.F.type_list_append mt_append (pv 8) (pa_cons (pe_callTy call_int1 (by rfl) D.B.int (by decide +kernel) (pa_cons (pe_and (pe_cmpR op_eq (pe_dget (L2.hu_of hr) (pv 1) (pe_ix (r := rIxT K) ix_tup (pv 6) pe_int (fun _ _ => rfl)) (fun _ _ => rfl)) pe_int (nomark _)) (pe_one (pe_cmpR op_eq (pe_dget2 (L2.hu_of hr) (pv 2) (pe_ix (r := rIxT K) ix_tup (pv 6) pe_int (fun _ _ => rfl)) pe_int ⟨by rfl, by rfl, by rfl, by rfl⟩) pe_int (nomark _)))) pa_nil)) pa_nil)))) (pss_one (ps_if (pt_cmpR op_eq (pv 9) pe_str (nomark _)) (pss_one (ps_expr (pe_bm PySem.F.plainAttrs_list PySem.F.slot_list_append PySem.F.type_list_append mt_append (pv 8) (pa_cons (pe_op op_sub pe_int (pe_bm0 PySem.F.plainAttrs_list PySem.F.slot_list_pop PySem.F.type_list_pop mt_pop (pv 8))) pa_nil)))) (pss_cons (ps_set (i := 10) sc__law_worth.nd rfl (.inl rfl) pe_int) (pss_cons (ps_for PassesOwn.never rfl (pi_tup (pe_ix (r := rIxT K) ix_tup (pv 6) pe_int (fun _ _ => rfl))) (pg_name (i := 7) sc__law_worth.nd rfl (.inl rfl)) (pss_one (ps_set (i := 10) sc__law_worth.nd rfl (.inl rfl) (pe_op op_add (pv 10) (pe_bm0 PySem.F.plainAttrs_list PySem.F.slot_list_pop PySem.F.type_list_pop mt_pop (pv 8)))))) (pss_one (ps_if (pt_cmpR op_eq (pv 9) pe_str (nomark _)) (pss_one (ps_expr (pe_bm PySem.F.plainAttrs_list PySem.F.slot_list_append PySem.F.type_list_append mt_append (pv 8) (pa_cons (pe_callTy call_int1 (by rfl) D.B.int (by decide +kernel) (pa_cons (pe_cmpR op_eq (pv 10) (pe_callB call_len (by rfl) D.B.len PySem.boot_len (pa_cons (pe_ix (r := rIxT K) ix_tup (pv 6) pe_int (fun _ _ => rfl)) pa_nil)) (nomark _)) pa_nil)) pa_nil)))) (pss_one (ps_expr (pe_bm PySem.F.plainAttrs_list PySem.F.slot_list_append PySem.F.type_list_append mt_append (pv 8) (pa_cons (pe_callTy call_int1 (by rfl) D.B.int (by decide +kernel) (pa_cons (pe_cmpR op_gt (pv 10) pe_int (nomark _)) pa_nil)) pa_nil))))))))))))))))))))
      (pss_one (ps_ret (pe_ix (r := rIxL K) ix_list (pv 8) pe_int (fun _ _ => rfl))))))), ?_⟩
  intro v sv bd T O c5 c6 c7 F ys kvs ρ H H1 w1 he hc eb hv q
  have es : sizeLine = 16777216 := sizeLine_eq
  refine ⟨.ref O, rfl, .inl ⟨rfl, _, sqL w1.o⟩, O, ys, rfl, rfl, w1.o, ?_⟩
  have w2 := w1.setO (dhAll_rev w1.dy)
  generalize upd H1 O (.lst ys.reverse) = H2 at w2
  refine ⟨by show 0 ≤ sizeLine; omega, fun W nW => ?_⟩
  have sW := same_upd nW (o := .lst [])
  have w3 := w2.grow sW
  have nHW : H W = none := none_of_same w2.s nW
  have neW : O ≠ W := fun e => by rw [← e, w2.o] at nW; cases nW
  have eW : upd H2 W (.lst []) W = some (.lst []) := upd_same
  generalize upd H2 W (.lst []) = H3 at w3 eW
  obtain ⟨L, eL⟩ : ∃ L, F.pre.reverse = L := ⟨_, rfl⟩
  obtain ⟨yr, eyr⟩ : ∃ yr, ys.reverse = yr := ⟨_, rfl⟩
  rw [eL, eyr] at w3
  have lL : L.length ≤ 600 := by rw [← eL, List.length_reverse, pre_len]; exact hc
  have lyr : yr.length = L.length := dhAll_len w3.dy
  have run0 : (algW ρ).runs (L.drop 0) [] = some [F.ev ρ] := by
    rw [List.drop_zero, ← eL, runs_all (algW ρ) he, fold_ev ρ F he]
  have w0 : Ws H H3 O W yr L [] := ⟨w3.s, w3.nO, nHW, neW, w3.o, eW, w3.dy⟩
  refine ⟨.ref O, rfl, O, rfl, ⟨_, sqL w3.o⟩, forLs (fun j σ H' => ∃ (st : List Bool) (c5 c6 c7 c9 c10 : Option V), σ = [some v, some (.ref bd), some sv, some (.ref T), some (.ref O), c5, c6, c7, some (.ref W), c9, c10] ∧ Ws H H' O W yr L st ∧ (algW ρ).runs (L.drop j) st = some [F.ev ρ] ∧ st.length ≤ j) w3.o ⟨[], _, _, _, _, _, rfl, w0, run0, Nat.le_refl _⟩ (fun j σ H' ⟨_, _, _, _, _, _, _, w, _⟩ => w.o) ?_ ?_⟩
  · rintro j x σ H4 hx ⟨st, c5, c6, c7, c9, c10, rfl, w4, run, hst⟩
    obtain ⟨g, eg, hg⟩ := dhAll_at w4.dy hx
    have hj := (List.getElem?_eq_some_iff.mp hx).1
    obtain ⟨s', es', run'⟩ := runs_step run eg
    have lst : (bls st).length < sizeLine := by rw [bls_len]; omega
    have gm : g ∈ F.pre := by rw [← List.mem_reverse, eL]; exact List.mem_of_getElem? eg
    obtain ⟨a, rfl, cs⟩ := subs_dh hg
    have fin : ∀ (H5 : Hp) (c5 c7 c9 c10 : Option V), Ws H H5 O W yr L s' → s'.length ≤ j + 1 → ∃ (st : List Bool) (d5 d6 d7 d9 d10 : Option V), [some v, some (.ref bd), some sv, some (.ref T), some (.ref O), c5, some (.ref a), c7, some (.ref W), c9, c10] = [some v, some (.ref bd), some sv, some (.ref T), some (.ref O), d5, d6, d7, some (.ref W), d9, d10] ∧ Ws H H5 O W yr L st ∧ (algW ρ).runs (L.drop (j + 1)) st = some [F.ev ρ] ∧ st.length ≤ j + 1 :=
      fun H5 c5 c7 c9 c10 w5 hl => ⟨s', _, _, _, _, _, rfl, w5, run', hl⟩
    rcases cs with ⟨b, rfl, ea⟩ | ⟨z, rfl, ea⟩ | ⟨r, z, rfl, ea⟩ | ⟨g2, x2, rfl, ea, h2⟩ | ⟨w', gs, a2, zs, rfl, ea, ea2, hz⟩
    · obtain rfl : st ++ [b] = s' := Option.some.inj (show some (st ++ [b]) = some s' from es')
      refine ⟨.ref a, rfl, a, _, 0, .str "bit", rfl, rfl, sqT ea, rfl, .str "bit", rfl, rfl, _, rfl, ?_⟩
      rw [strEq, decide_eq_true rfl]
      refine iteT ⟨.ref W, rfl, .inl ⟨rfl, _, sqL w4.w⟩, .ref a, rfl, a, _, 1, .int (if b then 1 else 0), rfl, rfl, sqT ea, rfl, W, _, .int (if b then 1 else 0), rfl, rfl, w4.w, lst, fin _ _ _ _ _ (w4.setW ?_) (by rw [List.length_append, List.length_singleton]; omega)⟩
      rw [← bls_snoc]; cases b <;> rfl
    · obtain rfl : st ++ [ρ z] = s' := Option.some.inj (show some (st ++ [ρ z]) = some s' from es')
      refine ⟨.ref a, rfl, a, _, 0, .str "name", rfl, rfl, sqT ea, rfl, .str "name", rfl, rfl, _, rfl, ?_⟩
      rw [strEq, decide_eq_false (by simp)]
      refine iteF ⟨.str "name", rfl, rfl, _, rfl, ?_⟩
      rw [strEq, decide_eq_true rfl]
      have ev := hv z (pre_nms F _ gm z (by simp [Fm.nms, Fm.lvs, nmOf]))
      exact iteT ⟨.ref W, rfl, .inl ⟨rfl, _, sqL w4.w⟩, .ref bd, rfl, .ref a, rfl, a, _, 1, .str z, rfl, rfl, sqT ea, rfl, bd, .int ((ρ z).toNat : Nat), rfl, .inl ⟨kvs, .inr z, .inl (w4.s _ _ eb), rfl, ev.symm⟩, W, _, _, rfl, rfl, w4.w, lst, fin _ _ _ _ _ (w4.setW (bls_snoc _ _)) (by rw [List.length_append, List.length_singleton]; omega)⟩
    · cases es'
    · refine ⟨.ref a, rfl, a, _, 0, .str "not", rfl, rfl, sqT ea, rfl, .str "not", rfl, rfl, _, rfl, ?_⟩
      rw [strEq, decide_eq_false (by simp)]
      refine iteF ⟨.str "not", rfl, rfl, _, rfl, ?_⟩
      rw [strEq, decide_eq_false (by simp)]
      refine iteF ⟨.str "not", rfl, rfl, _, rfl, ?_⟩
      rw [strEq, decide_eq_false (by simp)]
      refine iteF ⟨.str "not", rfl, rfl, _, rfl, ?_⟩
      rw [strEq, decide_eq_false (by simp)]
      refine iteF ⟨.str "not", rfl, rfl, _, rfl, ?_⟩
      rw [strEq, decide_eq_true rfl]
      have ne : st ≠ [] := fun e => by rw [e] at es'; cases es'
      obtain ⟨l', b, rfl, e1, e2⟩ := bls_last ne
      obtain rfl : l' ++ [!b] = s' := by
        have : (algW ρ).step (.not g2) (l' ++ [b]) = some s' := es'
        simpa [Alg.step, algW] using this
      have w5 := w4.setW e1
      refine iteT ⟨.ref W, rfl, .inl ⟨rfl, _, sqL w4.w⟩, .ref W, rfl, .inl ⟨rfl, _, sqL w4.w⟩, W, _, _, rfl, rfl, w4.w, e2, 1, _, rfl, rfl, W, _, _, rfl, rfl, w5.w, by rw [bls_len]; rw [List.length_append] at hst; omega, fin _ _ _ _ _ (w5.setW ?_) (by rw [List.length_append, List.length_singleton] at hst ⊢; omega)⟩
      rw [← bls_snoc]; cases b <;> rfl
    · have k1 : jK w' ≠ "bit" := by cases w' <;> simp [jK]
      have k2 : jK w' ≠ "name" := by cases w' <;> simp [jK]
      have k3 : jK w' ≠ "not" := by cases w' <;> simp [jK]
      have k4 : jK w' ≠ "rise" := by cases w' <;> simp [jK]
      have k5 : jK w' ≠ "fall" := by cases w' <;> simp [jK]
      refine ⟨.ref a, rfl, a, _, 0, .str (jK w'), rfl, rfl, sqT ea, rfl, .str (jK w'), rfl, rfl, _, rfl, ?_⟩
      rw [strEq, decide_eq_false k1]
      refine iteF ⟨.str (jK w'), rfl, rfl, _, rfl, ?_⟩
      rw [strEq, decide_eq_false k2]
      refine iteF ⟨.str (jK w'), rfl, rfl, _, rfl, ?_⟩
      rw [strEq, decide_eq_false k4]
      refine iteF ⟨.str (jK w'), rfl, rfl, _, rfl, ?_⟩
      rw [strEq, decide_eq_false k5]
      refine iteF ⟨.str (jK w'), rfl, rfl, _, rfl, ?_⟩
      rw [strEq, decide_eq_false k3]
      have lz : zs.length = gs.length := dhAll_len hz
      have hn : gs.length ≤ st.length := by
        by_cases h : gs.length ≤ st.length
        · exact h
        · simp only [Alg.step, if_neg h] at es'; cases es'
      have e2 : st.take (st.length - gs.length) ++ [(algW ρ).j w' (st.drop (st.length - gs.length))] = s' := by
        simp only [Alg.step, if_pos hn] at es'
        exact Option.some.inj es'
      refine iteF ⟨.ref a, rfl, a, _, 1, .ref a2, rfl, rfl, sqT ea, rfl, a2, rfl, ⟨_, sqT ea2⟩, forTt (fun i σ H' => (∃ c7 t1 t2, σ = [some v, some (.ref bd), some sv, some (.ref T), some (.ref O), c5, some (.ref a), c7, some (.ref W), some (.str (jK w')), some (.int (ct t2 : Nat))] ∧ st = t1 ++ t2 ∧ t2.length = i ∧ Ws H H' O W yr L t1) ∧ H' a = some (.tup [.str (jK w'), .ref a2]) ∧ H' a2 = some (.tup zs)) ea2 ⟨⟨_, st, [], rfl, by simp, rfl, w4⟩, ea, ea2⟩ (fun i σ H' o ⟨_, _, e⟩ e2 => by rw [ea2] at e2; cases e2; exact e) ?_ ?_⟩
      · rintro i y σ H6 hi ⟨⟨c7, t1, t2, rfl, est, l2, w6⟩, ea6, ea26⟩
        have hi2 := (List.getElem?_eq_some_iff.mp hi).1
        have ne : t1 ≠ [] := fun e => by
          rw [e, List.nil_append] at est
          rw [est] at hn
          omega
        obtain ⟨l', b, rfl, e1, e2⟩ := bls_last ne
        have w7 := w6.setW e1
        have tk := tupK_upd (ys := (bls (l' ++ [b])).dropLast) w6.w
        refine ⟨.int (ct t2 : Nat), rfl, .ref W, rfl, .inl ⟨rfl, _, sqL w6.w⟩, W, _, _, rfl, rfl, w6.w, e2, _, _, rfl, rfl, ⟨some y, l', b :: t2, ?_, by rw [est]; simp, by rw [List.length_cons, l2], w7⟩, tk _ _ ea6, tk _ _ ea26⟩
        rw [ct_cons, Nat.add_comm, Int.natCast_add]
        rfl
      · rintro σ H6 ⟨⟨c7, t1, t2, rfl, est, l2, w6⟩, ea6, ea26⟩
        have et1 : st.take (st.length - gs.length) = t1 := by
          rw [est, List.length_append, show t1.length + t2.length - gs.length = t1.length by omega, List.take_left]
        have et2 : st.drop (st.length - gs.length) = t2 := by
          rw [est, List.length_append, show t1.length + t2.length - gs.length = t1.length by omega, List.drop_left]
        rw [et1, et2] at e2
        have hl : s'.length ≤ j + 1 := by
          rw [← e2, List.length_append, List.length_singleton]
          have : t1.length ≤ st.length := by rw [est, List.length_append]; omega
          omega
        have l1 : (bls t1).length < sizeLine := by
          have : t1.length ≤ st.length := by rw [est, List.length_append]; omega
          rw [bls_len]; omega
        refine ⟨.str (jK w'), rfl, rfl, _, rfl, ?_⟩
        cases w' with
        | false =>
          rw [strEq, decide_eq_true (show jK false = Str.ofString "and" from rfl)]
          refine iteT ⟨.ref W, rfl, .inl ⟨rfl, _, sqL w6.w⟩, .int (ct t2 : Nat), rfl, .ref a, rfl, a, _, 1, .ref a2, rfl, rfl, sqT ea6, rfl, .ref a2, (zs.length : Nat), rfl, .inr ⟨_, sqT ea26, rfl⟩, rfl, .inr ⟨_, rfl, W, _, _, rfl, rfl, w6.w, l1, fin _ _ _ _ _ (w6.setW ?_) hl⟩⟩
          rw [← e2, ← bls_snoc, intEq, ← l2, ct_all]
          show _ = bls t1 ++ [V.int ((t2.all id).toNat : Nat)]
          cases t2.all id <;> rfl
        | true =>
          rw [strEq, decide_eq_false (by simp [jK])]
          refine iteF ⟨.ref W, rfl, .inl ⟨rfl, _, sqL w6.w⟩, .int (ct t2 : Nat), rfl, _, _, rfl, rfl, .inr ⟨_, rfl, W, _, _, rfl, rfl, w6.w, l1, fin _ _ _ _ _ (w6.setW ?_) hl⟩⟩
          rw [← e2, ← bls_snoc, show decide ((0 : Int) < (ct t2 : Nat)) = decide (0 < ct t2) from decide_eq_decide.mpr (by omega), ct_any]
          show _ = bls t1 ++ [V.int ((t2.any id).toNat : Nat)]
          cases t2.any id <;> rfl
  · rintro σ H4 ⟨st, c5, c6, c7, c9, c10, rfl, w4, run, hst⟩
    rw [lyr, List.drop_length] at run
    obtain rfl : st = [F.ev ρ] := Option.some.inj run
    exact ⟨.ref W, rfl, W, _, 0, _, rfl, rfl, sqL w4.w, rfl, q H4 w4.s⟩
theorem ok_lworth {k : Nat} (D : Pr P K mg) : FnOk P w K mg base CX0 (k + 1) D._law_worth.f D._law_worth.fd ["formula", "bits", "seen"] spWorth := by
  refine D._law_worth.F.ok sc__law_worth (fun vs H Q E h => ?_) (fun cdv A outer s H vs Q E hr h => ?_)
  · obtain ⟨v, sv, bd, f, kvs, ρ, rfl, _⟩ := h
    rfl
  · obtain ⟨v, sv, bd, f, kvs, ρ, rfl, hd, he, hc, eb, hv, q⟩ := h
    have es : sizeLine = 16777216 := sizeLine_eq
    obtain ⟨tT, hT, rT⟩ := lw_tail (w := w) (base := base) D D._law_worth.f cdv A outer s H Q E hr
    refine ⟨_, (pss_cons (ps_set (i := 3) sc__law_worth.nd rfl (.inl rfl) (pe_lst (pa_cons (pv 0) pa_nil)))
      (pss_cons (ps_set (i := 4) sc__law_worth.nd rfl (.inl rfl) (pe_lst pa_nil))
      (pss_cons (ps_for PassesOwn.never rfl (pi_range1 (by rfl) D.B.range (pa_cons pe_int pa_nil)) (pg_name (i := 5) sc__law_worth.nd rfl (.inl rfl)) (pss_cons (ps_if (pt_cmpR op_eq (pe_callB call_len (by rfl) D.B.len PySem.boot_len (pa_cons (pv 3) pa_nil)) pe_int (nomark _)) (pss_one ps_break) pss_nil) (pss_cons (ps_set (i := 6) sc__law_worth.nd rfl (.inl rfl) (pe_bm0 PySem.F.plainAttrs_list PySem.F.slot_list_pop PySem.F.type_list_pop mt_pop (pv 3))) (pss_cons (ps_expr (pe_bm PySem.F.plainAttrs_list PySem.F.slot_list_append PySem.F.type_list_append mt_append (pv 4) (pa_cons (pv 6) pa_nil))) (pss_one (ps_if (pt_cmpR op_eq (pe_ix (r := rIxT K) ix_tup (pv 6) pe_int (fun _ _ => rfl)) pe_str (nomark _)) (pss_one (ps_expr (pe_bm PySem.F.plainAttrs_list PySem.F.slot_list_append PySem.F.type_list_append mt_append (pv 3) (pa_cons (pe_ix (r := rIxT K) ix_tup (pv 6) pe_int (fun _ _ => rfl)) pa_nil)))) (pss_one (ps_if (pt_cmpR op_in_seq (pe_ix (r := rIxT K) ix_tup (pv 6) pe_int (fun _ _ => rfl)) (pe_tup (pa_cons pe_str (pa_cons pe_str pa_nil))) (by rfl)) (pss_one (ps_for PassesOwn.never rfl (pi_tup (pe_ix (r := rIxT K) ix_tup (pv 6) pe_int (fun _ _ => rfl))) (pg_name (i := 7) sc__law_worth.nd rfl (.inl rfl)) (pss_one (ps_expr (pe_bm PySem.F.plainAttrs_list PySem.F.slot_list_append PySem.F.type_list_append mt_append (pv 3) (pa_cons (pv 7) pa_nil)))))) pss_nil))))))))
      hT))), ?_⟩
    refine ⟨v, rfl, by show 1 ≤ sizeLine; omega, fun T nT => ⟨by show 0 ≤ sizeLine; omega, fun O nO => ⟨600, rfl, by decide, by decide, ?_⟩⟩⟩
    have nHO : H O = none := none_of_same (same_upd nT) nO
    have neTO : T ≠ O := fun e => by rw [← e, upd_same] at nO; cases nO
    have w0 : Wk H (upd (upd H T (.lst [v])) O (.lst [])) T O [v] [] [f] [] :=
      ⟨(same_upd nT).trans (same_upd nO), nT, nHO, neTO, (same_upd nO) _ _ upd_same, upd_same, .cons (hd.same ((same_upd nT).trans (same_upd nO))) .nil, .nil⟩
    refine forRg (n := 600) (fun i σ H' => ∃ (xs ys : List V) (fs os : List Fm) (c3 c4 c5 : Option V), σ = [some v, some (.ref bd), some sv, some (.ref T), some (.ref O), c3, c4, c5, none, none, none] ∧ Wk H H' T O xs ys fs os ∧ os ++ preR fs = f.pre ∧ (fs = [] ∨ cntL fs + i = f.cnt) ∧ os.length ≤ i) ⟨_, _, _, _, _, _, _, rfl, w0, by simp [preR], .inr (by simp [cntL]), Nat.le_refl _⟩ ?_ ?_
    · rintro i σ H2 hi ⟨xs, ys, fs, os, c3, c4, c5, rfl, w2, hp, hcn, ho⟩
      have lx := dhAll_len w2.dx
      refine ⟨.ref T, rfl, .ref T, (xs.length : Nat), rfl, .inl ⟨_, sqL w2.t, rfl⟩, rfl, _, rfl, ?_⟩
      rw [show decide (V.int (xs.length : Nat) = V.int 0) = decide (xs.length = 0) from intEq _ 0]
      by_cases ne : fs = []
      · subst ne
        have ex : xs = [] := List.eq_nil_of_length_eq_zero lx
        subst ex
        rw [preR, List.append_nil] at hp
        subst hp
        exact iteT (rT v sv bd T O _ _ _ f ys kvs ρ H H2 w2 he hc eb hv q)
      have lf : 1 ≤ fs.length := by cases fs with | nil => exact absurd rfl ne | cons _ _ => simp
      rw [decide_eq_false (by rw [lx]; omega)]
      obtain ⟨g, y, ef, ex, ey, hy, dx'⟩ := dh_snoc w2.dx ne
      have hcn : cntL fs + i = f.cnt := hcn.resolve_left ne
      have ec := cnt_snoc fs.dropLast g
      rw [← ef] at ec
      have ep := preR_snoc fs.dropLast g
      rw [← ef] at ep
      have hp2 : (os ++ [g]) ++ preR (fs.dropLast ++ g.subs) = f.pre := by rw [← hp, ep]; simp
      have w3 := w2.setT dx'
      have hy3 := Dh.tups (tupK_upd (ys := xs.dropLast) w2.t) _ _ (noL_data g) hy
      have lxs : xs.length ≤ 600 := by
        rw [lx]
        have : ∀ l : List Fm, l.length ≤ cntL l := fun l => by
          induction l with
          | nil => simp
          | cons a r ih => have := a.cnt_pos; simp only [List.length_cons, cntL]; omega
        have := this fs
        omega
      refine iteF ⟨.ref T, rfl, .inl ⟨rfl, _, sqL w2.t⟩, T, xs, y, rfl, rfl, w2.t, ey, ?_⟩
      generalize upd H2 T (.lst xs.dropLast) = H3 at w3 hy3
      have w4 := w3.setO (dhAll_snoc w3.dy hy3)
      have hy4 := Dh.tups (tupK_upd (ys := ys ++ [y]) w3.o) _ _ (noL_data g) hy3
      refine ⟨.ref O, rfl, .inl ⟨rfl, _, sqL w3.o⟩, y, rfl, O, ys, y, rfl, rfl, w3.o, by have := dhAll_len w3.dy; omega, ?_⟩
      generalize upd H3 O (.lst (ys ++ [y])) = H4 at w4 hy4
      have ho2 : (os ++ [g]).length ≤ i + 1 := by rw [List.length_append, List.length_singleton]; omega
      obtain ⟨a, rfl, cs⟩ := subs_dh hy4
      have push : ∀ (zs : List V) (H5 : Hp), Wk H H5 T O (xs.dropLast ++ zs) (ys ++ [.ref a]) (fs.dropLast ++ g.subs) (os ++ [g]) → ∀ c5, ∃ (xs' ys' : List V) (fs' os' : List Fm) (d3 d4 d5 : Option V), [some v, some (.ref bd), some sv, some (.ref T), some (.ref O), some (.int i), some (.ref a), c5, none, none, none] = [some v, some (.ref bd), some sv, some (.ref T), some (.ref O), d3, d4, d5, none, none, none] ∧ Wk H H5 T O xs' ys' fs' os' ∧ os' ++ preR fs' = f.pre ∧ (fs' = [] ∨ cntL fs' + (i + 1) = f.cnt) ∧ os'.length ≤ i + 1 :=
        fun zs H5 w5 c5 => ⟨_, _, _, _, _, _, _, rfl, w5, hp2, .inr (by omega), ho2⟩
      rcases cs with cs | cs | cs | ⟨g2, x2, rfl, ea, h2⟩ | ⟨w2', gs, a2, zs, rfl, ea, ea2, hz⟩
      iterate 3
        obtain ⟨leaf, ea⟩ : g.isLeaf = true ∧ H4 a = some (.tup (g.key.map kV)) := by
          first
          | (obtain ⟨b, rfl, e⟩ := cs; exact ⟨rfl, e⟩)
          | (obtain ⟨b, c, rfl, e⟩ := cs; exact ⟨rfl, e⟩)
        obtain ⟨kk, k2, ek, n1, n2⟩ : ∃ kk k2, g.key = [.inr kk, k2] ∧ kk ≠ "not" ∧ (decide (kk = "and") || decide (kk = "or")) = false := by
          first
          | (obtain ⟨b, rfl, e⟩ := cs; exact ⟨_, _, rfl, by simp, by simp⟩)
          | (obtain ⟨b, c, rfl, e⟩ := cs; exact ⟨_, _, rfl, by cases b <;> simp [eK], by cases b <;> simp [eK]⟩)
        refine ⟨.ref a, rfl, a, g.key.map kV, 0, .str kk, rfl, rfl, sqT ea, by rw [ek]; rfl, rfl, _, rfl, ?_⟩
        rw [strEq, decide_eq_false n1]
        refine iteF ⟨.ref a, rfl, a, g.key.map kV, 0, .str kk, rfl, rfl, sqT ea, by rw [ek]; rfl, by show 2 ≤ sizeLine; omega, fun p np => ⟨p, [.str "and", .str "or"], rfl, .inr (sqT upd_same), rfl, rfl, _, rfl, ?_⟩⟩
        show if (if false = true then _ else inV (.str kk) [.str "and", .str "or"]) = true then _ else _
        rw [if_neg Bool.false_ne_true, inJ, n2]
        refine iteF (push [] _ ?_ _)
        rw [List.append_nil, (leaf_lvs leaf).2, List.append_nil]
        exact w4.grow (same_upd np)
      · refine ⟨.ref a, rfl, a, _, 0, .str "not", rfl, rfl, sqT ea, rfl, rfl, _, rfl, ?_⟩
        rw [strEq, decide_eq_true rfl]
        refine iteT ⟨.ref T, rfl, .inl ⟨rfl, _, sqL w4.t⟩, .ref a, rfl, a, _, 1, x2, rfl, rfl, sqT ea, rfl, T, _, x2, rfl, rfl, w4.t, by rw [List.length_dropLast]; omega, push [x2] _ ?_ _⟩
        exact w4.setT (dhAll_snoc w4.dx h2)
      · refine ⟨.ref a, rfl, a, _, 0, .str (jK w2'), rfl, rfl, sqT ea, rfl, rfl, _, rfl, ?_⟩
        rw [strEq, decide_eq_false (by cases w2' <;> simp [jK])]
        refine iteF ⟨.ref a, rfl, a, _, 0, .str (jK w2'), rfl, rfl, sqT ea, rfl, by show 2 ≤ sizeLine; omega, fun p np => ⟨p, [.str "and", .str "or"], rfl, .inr (sqT upd_same), rfl, rfl, _, rfl, ?_⟩⟩
        show if (if false = true then _ else inV (.str (jK w2')) [.str "and", .str "or"]) = true then _ else _
        rw [if_neg Bool.false_ne_true, inJ, show (decide (jK w2' = "and") || decide (jK w2' = "or")) = true by cases w2' <;> simp [jK]]
        have sp := same_upd np (o := .tup [.str "and", .str "or"])
        have w5 := w4.grow sp
        have ea5 := sp _ _ ea
        have ea25 := sp _ _ ea2
        have hz5 := hz.same sp
        generalize upd H4 p (.tup [.str "and", .str "or"]) = H5 at w5 ea5 ea25 hz5
        have lz := dhAll_len hz
        have lgs : zs.length ≤ 600 := by
          have : ∀ l : List Fm, l.length ≤ cntL l := fun l => by
            induction l with
            | nil => simp
            | cons a r ih => have := a.cnt_pos; simp only [List.length_cons, cntL]; omega
          have := this gs
          have e2 : (Fm.joint w2' gs).cnt = cntL gs + 1 := by simp [Fm.cnt]
          have := cntL_mem (l := fs) (f := Fm.joint w2' gs) (by rw [ef]; simp)
          omega
        refine iteT ⟨.ref a, rfl, a, _, 1, .ref a2, rfl, rfl, sqT ea5, rfl, a2, rfl, ⟨_, sqT ea25⟩, forTt (fun j σ H' => (∃ c5, σ = [some v, some (.ref bd), some sv, some (.ref T), some (.ref O), some (.int i), some (.ref a), c5, none, none, none]) ∧ Wk H H' T O (xs.dropLast ++ zs.take j) (ys ++ [.ref a]) (fs.dropLast ++ gs.take j) (os ++ [.joint w2' gs]) ∧ DhAll H' zs (gs.map Fm.data) ∧ H' a2 = some (.tup zs)) ea25 ⟨⟨_, rfl⟩, by rw [List.take_zero, List.take_zero, List.append_nil, List.append_nil]; exact w5, hz5, ea25⟩ (fun j σ H' o ⟨_, _, _, e⟩ e2 => by rw [ea25] at e2; cases e2; exact e) ?_ ?_⟩
        · rintro j x σ H6 hx ⟨⟨c5, rfl⟩, w6, hz6, ea6⟩
          obtain ⟨g1, eg, hg⟩ := dhAll_at hz6 hx
          have hj := (List.getElem?_eq_some_iff.mp hx).1
          refine ⟨.ref T, rfl, .inl ⟨rfl, _, sqL w6.t⟩, x, rfl, T, _, x, rfl, rfl, w6.t, by rw [List.length_append, List.length_dropLast, List.length_take]; omega, ⟨_, rfl⟩, ?_, ?_, ?_⟩
          · rw [takeS hx, takeS eg, ← List.append_assoc, ← List.append_assoc]
            exact w6.setT (dhAll_snoc w6.dx hg)
          · exact dhAll_tups (tupK_upd w6.t) hz6
          · rw [upd_ne (fun e => by rw [e, w6.t] at ea6; cases ea6)]; exact ea6
        · rintro σ H6 ⟨⟨c5, rfl⟩, w6, hz6, ea6⟩
          refine push zs H6 ?_ _
          rw [List.take_length] at w6
          rw [lz, List.take_length] at w6
          exact w6
    · rintro σ H2 ⟨xs, ys, fs, os, c3, c4, c5, rfl, w2, hp, hcn, ho⟩
      have e0 : fs = [] := hcn.elim id fun e => cnt_zero (by omega)
      subst e0
      have ex : xs = [] := List.eq_nil_of_length_eq_zero (dhAll_len w2.dx)
      subst ex
      rw [preR, List.append_nil] at hp
      subst hp
      exact rT v sv bd T O c3 c4 c5 f ys kvs ρ H H2 w2 he hc eb hv q
end
end K7

set_option Elab.async false
set_option linter.all false
set_option maxRecDepth 100000
set_option maxHeartbeats 4000000
namespace K7
open PySem PySem.Spec PyProof.Rows L2 GX NdefX
/-! ### _law_names -/
def nmsL (fs : List Fm) : List Str := (lvsL fs).filterMap nmOf
theorem nmsL_app (a b : List Fm) : nmsL (a ++ b) = nmsL a ++ nmsL b := by unfold nmsL; rw [lvsL_app, List.filterMap_append]
structure Wn (H H' : Hp) (T N : Addr) (xs : List V) (fs : List Fm) (zs : List Str) : Prop where
  s : Same H H'
  nT : H T = none
  nN : H N = none
  ne : T ≠ N
  t : H' T = some (.lst xs)
  n : H' N = some (.lst (txs zs))
  dx : DhAll H' xs (fs.map Fm.data)
theorem Wn.grow {H H' H'' : Hp} {T N : Addr} {xs : List V} {fs : List Fm} {zs : List Str} (w : Wn H H' T N xs fs zs) (s : Same H' H'') : Wn H H'' T N xs fs zs :=
  ⟨w.s.trans s, w.nT, w.nN, w.ne, s _ _ w.t, s _ _ w.n, w.dx.same s⟩
theorem Wn.setT {H H' : Hp} {T N : Addr} {xs xs2 : List V} {fs fs2 : List Fm} {zs : List Str} (w : Wn H H' T N xs fs zs) (d : DhAll H' xs2 (fs2.map Fm.data)) : Wn H (upd H' T (.lst xs2)) T N xs2 fs2 zs :=
  ⟨fun b q e => by rw [upd_ne (fun z => by rw [z, w.nT] at e; cases e)]; exact w.s _ _ e, w.nT, w.nN, w.ne, upd_same, by rw [upd_ne w.ne.symm]; exact w.n, dhAll_tups (tupK_upd w.t) d⟩
theorem Wn.setN {H H' : Hp} {T N : Addr} {xs : List V} {fs : List Fm} {zs : List Str} {z : Str} (w : Wn H H' T N xs fs zs) : Wn H (upd H' N (.lst (txs zs ++ [.str z]))) T N xs fs (zs ++ [z]) :=
  ⟨fun b q e => by rw [upd_ne (fun z => by rw [z, w.nN] at e; cases e)]; exact w.s _ _ e, w.nT, w.nN, w.ne, by rw [upd_ne w.ne]; exact w.t, by rw [upd_same]; unfold txs; rw [List.map_append]; rfl, dhAll_tups (tupK_upd w.n) w.dx⟩
def spLNames : Sp := fun vs H Q _ => ∃ (v : V) (f : Fm), vs = [v] ∧ Dh H v f.data ∧ f.cnt ≤ 600 ∧ ∀ ys D H1, Told ys f.nms → Same H H1 → H D = none → H1 D = some (.lst (txs ys)) → Q (.ref D) H1
section
variable {P : Program} {w : World} {K : PySem.W.Frag} {mg : Str → Option Value} {base : Heap}
theorem ok_lnames {k : Nat} (D : Pr P K mg) : FnOk P w K mg base CX0 (k + 1) D._law_names.f D._law_names.fd ["formula"] spLNames := by
  refine D._law_names.F.ok sc__law_names (fun vs H Q E h => ?_) (fun cdv A outer s H vs Q E hr h => ?_)
  · obtain ⟨v, f, rfl, _⟩ := h
    rfl
  · obtain ⟨v, f, rfl, hd, hc, q⟩ := h
    have es : sizeLine = 16777216 := sizeLine_eq
    refine ⟨_, (pss_cons (ps_set (i := 1) sc__law_names.nd rfl (.inl rfl) (pe_lst (pa_cons (pv 0) pa_nil)))
      (pss_cons (ps_set (i := 2) sc__law_names.nd rfl (.inl rfl) (pe_lst pa_nil))
      (pss_cons (ps_for PassesOwn.never rfl (pi_range1 (by rfl) D.B.range (pa_cons pe_int pa_nil)) (pg_name (i := 3) sc__law_names.nd rfl (.inl rfl)) (pss_one (ps_if (pt_cmpR op_gt (pe_callB call_len (by rfl) D.B.len PySem.boot_len (pa_cons (pv 1) pa_nil)) pe_int (nomark _)) (pss_cons (ps_set (i := 4) sc__law_names.nd rfl (.inl rfl) (pe_bm0 PySem.F.plainAttrs_list PySem.F.slot_list_pop PySem.F.type_list_pop mt_pop (pv 1))) (pss_one (ps_if (pt_cmpR op_in_seq (pe_ix (r := rIxT K) ix_tup (pv 4) pe_int (fun _ _ => rfl)) (pe_tup (pa_cons pe_str (pa_cons pe_str pa_nil))) (by rfl)) (pss_one (ps_for PassesOwn.never rfl (pi_tup (pe_ix (r := rIxT K) ix_tup (pv 4) pe_int (fun _ _ => rfl))) (pg_name (i := 5) sc__law_names.nd rfl (.inl rfl)) (pss_one (ps_expr (pe_bm PySem.F.plainAttrs_list PySem.F.slot_list_append PySem.F.type_list_append mt_append (pv 1) (pa_cons (pv 5) pa_nil)))))) (pss_one (ps_if (pt_cmpR op_eq (pe_ix (r := rIxT K) ix_tup (pv 4) pe_int (fun _ _ => rfl)) pe_str (nomark _)) (pss_one (ps_expr (pe_bm PySem.F.plainAttrs_list PySem.F.slot_list_append PySem.F.type_list_append mt_append (pv 1) (pa_cons (pe_ix (r := rIxT K) ix_tup (pv 4) pe_int (fun _ _ => rfl)) pa_nil)))) (pss_one (ps_if (PW.pt (pw_and (pt_cmpR op_ne (pe_ix (r := rIxT K) ix_tup (pv 4) pe_int (fun _ _ => rfl)) pe_str (nomark _)) (pw_and1 (pt_cmpR op_notIn_seq (pe_ix (r := rIxT K) ix_tup (pv 4) pe_int (fun _ _ => rfl)) (pv 2) (by rfl))))) (pss_one (ps_expr (pe_bm PySem.F.plainAttrs_list PySem.F.slot_list_append PySem.F.type_list_append mt_append (pv 2) (pa_cons (pe_ix (r := rIxT K) ix_tup (pv 4) pe_int (fun _ _ => rfl)) pa_nil)))) pss_nil))))))) pss_nil)))
      (pss_one (ps_ret (pe_callB (r := SX.rSortT K) SX.cr_sortT (by rfl) D.B.sorted (by decide +kernel) (pa_cons (pv 2) pa_nil))))))), ?_⟩
    refine ⟨v, rfl, by show 1 ≤ sizeLine; omega, fun T nT => ⟨by show 0 ≤ sizeLine; omega, fun N nN => ⟨600, rfl, by decide, by decide, ?_⟩⟩⟩
    have nHN : H N = none := none_of_same (same_upd nT) nN
    have neTN : T ≠ N := fun e => by rw [← e, upd_same] at nN; cases nN
    have w0 : Wn H (upd (upd H T (.lst [v])) N (.lst [])) T N [v] [f] [] :=
      ⟨(same_upd nT).trans (same_upd nN), nT, nHN, neTN, (same_upd nN) _ _ upd_same, upd_same, .cons (hd.same ((same_upd nT).trans (same_upd nN))) .nil⟩
    refine forRg (n := 600) (fun i σ H' => ∃ (xs : List V) (fs : List Fm) (zs : List Str) (c3 c4 c5 : Option V), σ = [some v, some (.ref T), some (.ref N), c3, c4, c5] ∧ Wn H H' T N xs fs zs ∧ zs.Nodup ∧ zs.length ≤ i ∧ (∀ x, (x ∈ zs ∨ x ∈ nmsL fs) ↔ x ∈ f.nms) ∧ (fs = [] ∨ cntL fs + i = f.cnt)) ⟨_, _, _, _, _, _, rfl, w0, List.nodup_nil, Nat.le_refl _, fun x => by simp [nmsL, Fm.nms, lvsL], .inr (by simp [cntL])⟩ ?_ ?_
    · rintro i σ H2 hi ⟨xs, fs, zs, c3, c4, c5, rfl, w2, nd, lz, hm, hcn⟩
      have lx := dhAll_len w2.dx
      refine ⟨.ref T, rfl, .ref T, (xs.length : Nat), rfl, .inl ⟨_, sqL w2.t, rfl⟩, xs.length, 0, rfl, rfl, _, rfl, ?_⟩
      by_cases ne : fs = []
      · subst ne
        rw [decide_eq_false (by rw [lx]; simp)]
        exact iteF ⟨_, _, _, _, _, _, rfl, w2, nd, by omega, hm, .inl rfl⟩
      have lf : 1 ≤ fs.length := by cases fs with | nil => exact absurd rfl ne | cons _ _ => simp
      rw [decide_eq_true (by rw [lx]; omega)]
      obtain ⟨g, y, ef, ex, ey, hy, dx'⟩ := dh_snoc w2.dx ne
      have hcn : cntL fs + i = f.cnt := hcn.resolve_left ne
      have ec := cnt_snoc fs.dropLast g
      rw [← ef] at ec
      have en : nmsL fs = nmsL fs.dropLast ++ g.nms := by
        conv => lhs; rw [ef]
        rw [nmsL_app]; simp [nmsL, lvsL, Fm.nms]
      have lens : ∀ l : List Fm, l.length ≤ cntL l := fun l => by
        induction l with
        | nil => simp
        | cons a r ih => have := a.cnt_pos; simp only [List.length_cons, cntL]; omega
      have lxs : xs.length ≤ 600 := by
        rw [lx]
        have := lens fs
        omega
      have w3 := w2.setT dx'
      have hy3 := Dh.tups (tupK_upd (ys := xs.dropLast) w2.t) _ _ (noL_data g) hy
      refine iteT ⟨.ref T, rfl, .inl ⟨rfl, _, sqL w2.t⟩, T, xs, y, rfl, rfl, w2.t, ey, ?_⟩
      generalize upd H2 T (.lst xs.dropLast) = H3 at w3 hy3
      obtain ⟨a, rfl, cs⟩ := subs_dh hy3
      have push : ∀ (zs2 : List V) (H5 : Hp), g.isLeaf = false → Wn H H5 T N (xs.dropLast ++ zs2) (fs.dropLast ++ g.subs) zs → ∀ c5, ∃ (xs' : List V) (fs' : List Fm) (zs' : List Str) (d3 d4 d5 : Option V), [some v, some (.ref T), some (.ref N), some (.int i), some (.ref a), c5] = [some v, some (.ref T), some (.ref N), d3, d4, d5] ∧ Wn H H5 T N xs' fs' zs' ∧ zs'.Nodup ∧ zs'.length ≤ i + 1 ∧ (∀ x, (x ∈ zs' ∨ x ∈ nmsL fs') ↔ x ∈ f.nms) ∧ (fs' = [] ∨ cntL fs' + (i + 1) = f.cnt) :=
        fun zs2 H5 lf w5 c5 => ⟨_, _, _, _, _, _, rfl, w5, nd, by omega, fun x => by
          rw [← hm x, en, nmsL_app]
          have : nmsL g.subs = g.nms := by unfold nmsL Fm.nms; rw [subs_lvs lf]
          rw [this], .inr (by omega)⟩
      have leaf : ∀ (zs' : List Str) (H5 : Hp), g.isLeaf = true → Wn H H5 T N xs.dropLast fs.dropLast zs' → zs'.Nodup → zs'.length ≤ i + 1 → (∀ x, x ∈ zs' ↔ (x ∈ zs ∨ x ∈ g.nms)) → ∃ (xs' : List V) (fs' : List Fm) (zs' : List Str) (d3 d4 d5 : Option V), [some v, some (.ref T), some (.ref N), some (.int i), some (.ref a), c5] = [some v, some (.ref T), some (.ref N), d3, d4, d5] ∧ Wn H H5 T N xs' fs' zs' ∧ zs'.Nodup ∧ zs'.length ≤ i + 1 ∧ (∀ x, (x ∈ zs' ∨ x ∈ nmsL fs') ↔ x ∈ f.nms) ∧ (fs' = [] ∨ cntL fs' + (i + 1) = f.cnt) :=
        fun zs' H5 lf w5 nd' lz' hz => ⟨_, _, _, _, _, _, rfl, w5, nd', lz', fun x => by
          rw [← hm x, en, List.mem_append, hz x]
          constructor
          · rintro ((h | h) | h)
            · exact .inl h
            · exact .inr (.inr h)
            · exact .inr (.inl h)
          · rintro (h | h | h)
            · exact .inl (.inl h)
            · exact .inr h
            · exact .inl (.inr h), .inr (by rw [(leaf_lvs lf).2, List.append_nil] at ec; omega)⟩
      rcases cs with ⟨b, rfl, ea⟩ | cs | cs | ⟨g2, x2, rfl, ea, h2⟩ | ⟨w2', gs, a2, zs2, rfl, ea, ea2, hz⟩
      · refine ⟨.ref a, rfl, a, _, 0, .str "bit", rfl, rfl, sqT ea, rfl, by show 2 ≤ sizeLine; omega, fun p np => ⟨p, [.str "and", .str "or"], rfl, .inr (sqT upd_same), rfl, rfl, _, rfl, ?_⟩⟩
        show if (if false = true then _ else inV (.str "bit") [.str "and", .str "or"]) = true then _ else _
        rw [if_neg Bool.false_ne_true, inJ, show (decide (Str.ofString "bit" = "and") || decide (Str.ofString "bit" = "or")) = false by simp]
        have ea5 := (same_upd np (o := .tup [.str "and", .str "or"])) _ _ ea
        refine iteF ⟨.ref a, rfl, a, _, 0, .str "bit", rfl, rfl, sqT ea5, rfl, rfl, _, rfl, ?_⟩
        rw [strEq, decide_eq_false (by simp)]
        refine iteF ⟨.ref a, rfl, a, _, 0, .str "bit", rfl, rfl, sqT ea5, rfl, rfl, _, rfl, ?_⟩
        rw [strEq, decide_eq_true rfl]
        exact iteF (iteF (leaf zs _ rfl (w3.grow (same_upd np)) nd (by omega) fun x => by simp [Fm.nms, Fm.lvs, nmOf]))
      iterate 2
        obtain ⟨lf', kk, z, n1, n2, n3, en2, ea⟩ : ∃ (_ : g.isLeaf = true) (kk z : Str), kk ≠ "not" ∧ (decide (kk = "and") || decide (kk = "or")) = false ∧ kk ≠ "bit" ∧ g.nms = [z] ∧ H3 a = some (.tup [.str kk, .str z]) := by
          first
          | (obtain ⟨x, rfl, e⟩ := cs; exact ⟨rfl, "name", x, by simp, by simp, by simp, rfl, e⟩)
          | (obtain ⟨r, x, rfl, e⟩ := cs; exact ⟨rfl, eK r, x, by cases r <;> simp [eK], by cases r <;> simp [eK], by cases r <;> simp [eK], rfl, e⟩)
        refine ⟨.ref a, rfl, a, _, 0, .str kk, rfl, rfl, sqT ea, rfl, by show 2 ≤ sizeLine; omega, fun p np => ⟨p, [.str "and", .str "or"], rfl, .inr (sqT upd_same), rfl, rfl, _, rfl, ?_⟩⟩
        show if (if false = true then _ else inV (.str kk) [.str "and", .str "or"]) = true then _ else _
        rw [if_neg Bool.false_ne_true, inJ, n2]
        have ea5 := (same_upd np (o := .tup [.str "and", .str "or"])) _ _ ea
        have w5 := w3.grow (same_upd np (o := .tup [.str "and", .str "or"]))
        generalize upd H3 p (.tup [.str "and", .str "or"]) = H5 at ea5 w5
        refine iteF ⟨.ref a, rfl, a, _, 0, .str kk, rfl, rfl, sqT ea5, rfl, rfl, _, rfl, ?_⟩
        rw [strEq, decide_eq_false n1]
        refine iteF ⟨.ref a, rfl, a, _, 0, .str kk, rfl, rfl, sqT ea5, rfl, rfl, _, rfl, ?_⟩
        rw [strEq, decide_eq_false n3]
        refine iteT ⟨.ref a, rfl, a, _, 1, .str z, rfl, rfl, sqT ea5, rfl, .ref N, rfl, N, _, rfl, .inl (sqL w5.n), rfl, flat_txs _, _, rfl, ?_⟩
        show if (if true = true then (!inV (V.str z) (txs zs)) else _) = true then _ else _
        rw [if_pos rfl, inTxs]
        by_cases mz : z ∈ zs
        · rw [decide_eq_true mz]
          refine iteF (leaf zs _ lf' w5 nd (by omega) fun x => ?_)
          rw [en2, List.mem_singleton]
          exact ⟨.inl, fun h => h.elim id fun e => e ▸ mz⟩
        · rw [decide_eq_false mz]
          refine iteT ⟨.ref N, rfl, .inl ⟨rfl, _, sqL w5.n⟩, .ref a, rfl, a, _, 1, .str z, rfl, rfl, sqT ea5, rfl, N, _, .str z, rfl, rfl, w5.n, by rw [txs_len]; omega, leaf (zs ++ [z]) _ lf' w5.setN ?_ (by rw [List.length_append, List.length_singleton]; omega) fun x => ?_⟩
          · rw [List.nodup_append]
            exact ⟨nd, by simp, fun x m y my => by rw [List.mem_singleton.mp my]; rintro rfl; exact mz m⟩
          · rw [en2, List.mem_append, List.mem_singleton]
      · refine ⟨.ref a, rfl, a, _, 0, .str "not", rfl, rfl, sqT ea, rfl, by show 2 ≤ sizeLine; omega, fun p np => ⟨p, [.str "and", .str "or"], rfl, .inr (sqT upd_same), rfl, rfl, _, rfl, ?_⟩⟩
        show if (if false = true then _ else inV (.str "not") [.str "and", .str "or"]) = true then _ else _
        rw [if_neg Bool.false_ne_true, inJ, show (decide (Str.ofString "not" = "and") || decide (Str.ofString "not" = "or")) = false by simp]
        have sp := same_upd np (o := .tup [.str "and", .str "or"])
        have ea5 := sp _ _ ea
        have w5 := w3.grow sp
        have h25 := h2.same sp
        generalize upd H3 p (.tup [.str "and", .str "or"]) = H5 at ea5 w5 h25
        refine iteF ⟨.ref a, rfl, a, _, 0, .str "not", rfl, rfl, sqT ea5, rfl, rfl, _, rfl, ?_⟩
        rw [strEq, decide_eq_true rfl]
        refine iteT ⟨.ref T, rfl, .inl ⟨rfl, _, sqL w5.t⟩, .ref a, rfl, a, _, 1, x2, rfl, rfl, sqT ea5, rfl, T, _, x2, rfl, rfl, w5.t, by rw [List.length_dropLast]; omega, push [x2] _ rfl ?_ _⟩
        exact w5.setT (dhAll_snoc w5.dx h25)
      · refine ⟨.ref a, rfl, a, _, 0, .str (jK w2'), rfl, rfl, sqT ea, rfl, by show 2 ≤ sizeLine; omega, fun p np => ⟨p, [.str "and", .str "or"], rfl, .inr (sqT upd_same), rfl, rfl, _, rfl, ?_⟩⟩
        show if (if false = true then _ else inV (.str (jK w2')) [.str "and", .str "or"]) = true then _ else _
        rw [if_neg Bool.false_ne_true, inJ, show (decide (jK w2' = "and") || decide (jK w2' = "or")) = true by cases w2' <;> simp [jK]]
        have sp := same_upd np (o := .tup [.str "and", .str "or"])
        have w5 := w3.grow sp
        have ea5 := sp _ _ ea
        have ea25 := sp _ _ ea2
        have hz5 := hz.same sp
        generalize upd H3 p (.tup [.str "and", .str "or"]) = H5 at w5 ea5 ea25 hz5
        have lz2 := dhAll_len hz
        have lgs : zs2.length ≤ 600 := by
          have := lens gs
          have e2 : (Fm.joint w2' gs).cnt = cntL gs + 1 := by simp [Fm.cnt]
          have := cntL_mem (l := fs) (f := Fm.joint w2' gs) (by rw [ef]; simp)
          omega
        refine iteT ⟨.ref a, rfl, a, _, 1, .ref a2, rfl, rfl, sqT ea5, rfl, a2, rfl, ⟨_, sqT ea25⟩, forTt (fun j σ H' => (∃ c5, σ = [some v, some (.ref T), some (.ref N), some (.int i), some (.ref a), c5]) ∧ Wn H H' T N (xs.dropLast ++ zs2.take j) (fs.dropLast ++ gs.take j) zs ∧ DhAll H' zs2 (gs.map Fm.data) ∧ H' a2 = some (.tup zs2)) ea25 ⟨⟨_, rfl⟩, by rw [List.take_zero, List.take_zero, List.append_nil, List.append_nil]; exact w5, hz5, ea25⟩ (fun j σ H' o ⟨_, _, _, e⟩ e2 => by rw [ea25] at e2; cases e2; exact e) ?_ ?_⟩
        · rintro j x σ H6 hx ⟨⟨c5, rfl⟩, w6, hz6, ea6⟩
          obtain ⟨g1, eg, hg⟩ := dhAll_at hz6 hx
          have hj := (List.getElem?_eq_some_iff.mp hx).1
          refine ⟨.ref T, rfl, .inl ⟨rfl, _, sqL w6.t⟩, x, rfl, T, _, x, rfl, rfl, w6.t, by rw [List.length_append, List.length_dropLast, List.length_take]; omega, ⟨_, rfl⟩, ?_, ?_, ?_⟩
          · rw [takeS hx, takeS eg, ← List.append_assoc, ← List.append_assoc]
            exact w6.setT (dhAll_snoc w6.dx hg)
          · exact dhAll_tups (tupK_upd w6.t) hz6
          · rw [upd_ne (fun e => by rw [e, w6.t] at ea6; cases ea6)]; exact ea6
        · rintro σ H6 ⟨⟨c5, rfl⟩, w6, hz6, ea6⟩
          refine push zs2 H6 rfl ?_ _
          rw [List.take_length] at w6
          rw [lz2, List.take_length] at w6
          exact w6
    · rintro σ H2 ⟨xs, fs, zs, c3, c4, c5, rfl, w2, nd, lz, hm, hcn⟩
      have e0 : fs = [] := hcn.elim id fun e => cnt_zero (by omega)
      subst e0
      refine ⟨.ref N, rfl, N, zs, rfl, sqL w2.n, fun ys p pm up np => q ys p _ ⟨up, pm.nodup_iff.mpr nd, fun x => ?_⟩ (w2.s.trans (same_upd np)) (none_of_same w2.s np) upd_same⟩
      rw [pm.mem_iff, ← hm x]
      simp [nmsL, lvsL]
end
end K7

set_option Elab.async false
set_option linter.all false
set_option maxRecDepth 100000
set_option maxHeartbeats 4000000
namespace K7
open PySem PySem.Spec PyProof.Rows L2 GX NdefX
/-! ### _law_deep, _law_word -/
structure DeepF (f : Fm) (d c : Nat) : Prop where
  ok : f.ok = true
  dep : f.dep = d
  neg : f.neg.dep = d + c
  cnt : f.cnt ≤ 3 * d
  eds : f.eds = []
theorem DeepF.not {f : Fm} {d c : Nat} (h : DeepF f d c) : DeepF (.not f) (d + 1) c :=
  ⟨h.ok, by simp only [Fm.dep, h.dep], by simp only [Fm.neg, Fm.dep, h.neg]; omega, by have := h.cnt; simp only [Fm.cnt]; omega, h.eds⟩
theorem DeepF.joint {f : Fm} {d c : Nat} {w b s : Bool} (h : DeepF f d c) : DeepF (.joint w (if s then [f, .bit b] else [.bit b, f])) (d + 1) c := by
  have hd := h.dep
  have hn := h.neg
  have hc := h.cnt
  have p1 := f.dep_pos
  have p2 := f.neg.dep_pos
  cases s
  · show DeepF (.joint w [.bit b, f]) (d + 1) c
    refine ⟨by simp [Fm.ok, okL, h.ok], ?_, ?_, ?_, eds_joint fun g m => ?_⟩
    · simp only [Fm.dep, depL]; omega
    · simp only [Fm.neg, negL, Fm.dep, depL]; omega
    · simp only [Fm.cnt, cntL]; omega
    · simp only [List.mem_cons, List.not_mem_nil, or_false] at m
      rcases m with rfl | rfl
      · rfl
      · exact h.eds
  · show DeepF (.joint w [f, .bit b]) (d + 1) c
    refine ⟨by simp [Fm.ok, okL, h.ok], ?_, ?_, ?_, eds_joint fun g m => ?_⟩
    · simp only [Fm.dep, depL]; omega
    · simp only [Fm.neg, negL, Fm.dep, depL]; omega
    · simp only [Fm.cnt, cntL]; omega
    · simp only [List.mem_cons, List.not_mem_nil, or_false] at m
      rcases m with rfl | rfl
      · exact h.eds
      · rfl
def spDeep : Sp := fun vs H Q _ => ∃ (a : Addr) (v1 v2 : V) (f : Fm) (b : Bool) (c d : Nat), vs = [.ref a, v1, v2, .int (d : Nat)] ∧ 1 ≤ d ∧ d ≤ 41 ∧ NumsAt H a ∧ Dh H v1 f.data ∧ DeepF f 1 c ∧ Dh H v2 (Fm.bit b).data ∧
  ∀ u H' g, SameB a H H' → NumsAt H' a → Dh H' u g.data → DeepF g d c → Q u H'
def WQ (H : Hp) (dW : PyData) : VK := fun _ H1 => Same H H1 ∧ dW = .str "none"
def WE (Cf Cn Cm : Addr) (H : Hp) (dW : PyData) : XK := fun C od H' => Same H H' ∧ ((C = .ref Cf ∧ od = none ∧ dW = .str "formula") ∨ (C = .ref Cn ∧ ∃ d x dx, od = some d ∧ H' d = some (.xd [("name", x)]) ∧ Dh H' x dx ∧ dW = .tuple [.str "name", dx]) ∨
  (C = .ref Cm ∧ ∃ d, od = some d ∧ H' d = some (.xd [("limit", .int 10)]) ∧ dW = .tuple [.str "many", .int 10]))
def spWord (Cf Cn Cm : Addr) : Sp := fun vs H Q _ => ∃ (t : Nat) (v v2 : V) (dW : PyData), vs = [.int (t : Nat), v, v2] ∧
  (t = 0 → spTurned Cf [v] H (WQ H dW) (WE Cf Cn Cm H dW)) ∧ (t = 1 → spBitOf Cf Cn [v, v2] H (WQ H dW) (WE Cf Cn Cm H dW)) ∧ (t = 2 → spHangs Cf Cn Cm [v, v2] H (WQ H dW) (WE Cf Cn Cm H dW)) ∧
  (t = 3 → JoinAsk Cf false true [v] H (WQ H dW) (WE Cf Cn Cm H dW)) ∧ (t = 4 → JoinAsk Cf true false [v2, v] H (WQ H dW) (WE Cf Cn Cm H dW)) ∧ (5 ≤ t → JoinAsk Cf false true [v, v2, v] H (WQ H dW) (WE Cf Cn Cm H dW)) ∧
  ∀ u H1, Same H H1 → Dh H1 u dW → Q u H1
theorem spTurned.mono {C : Addr} {vs : List V} {H : Hp} {Q Q' : VK} {E E' : XK} (h : spTurned C vs H Q E) (hq : ∀ v H1, Q v H1 → Q' v H1) (hE : ∀ c o H1, E c o H1 → E' c o H1) : spTurned C vs H Q' E' := by
  obtain ⟨v, d, e, a, h1, h2⟩ := h
  refine ⟨v, d, e, a, fun z H' s => hE _ _ _ (h1 z H' s), fun z => ?_⟩
  obtain ⟨f, e1, e2, e3, e4, e5, e6⟩ := h2 z
  exact ⟨f, e1, e2, e3, e4, fun z H' s => hE _ _ _ (e5 z H' s), fun z => ⟨fun y H' s => hE _ _ _ ((e6 z).1 y H' s), fun y u H1 s d => hq _ _ ((e6 z).2 y u H1 s d)⟩⟩
theorem spBitOf.mono {C Cn : Addr} {vs : List V} {H : Hp} {Q Q' : VK} {E E' : XK} (h : spBitOf C Cn vs H Q E) (hq : ∀ v H1, Q v H1 → Q' v H1) (hE : ∀ c o H1, E c o H1 → E' c o H1) : spBitOf C Cn vs H Q' E' := by
  obtain ⟨v, v2, d, e, a, h1, h2⟩ := h
  refine ⟨v, v2, d, e, a, fun z H' s => hE _ _ _ (h1 z H' s), fun z => ?_⟩
  obtain ⟨f, e1, e2, e3, e5, e6⟩ := h2 z
  refine ⟨f, e1, e2, e3, fun z H' s => hE _ _ _ (e5 z H' s), fun z => ?_⟩
  obtain ⟨bd, kvs, g1, g2, g3⟩ := e6 z
  refine ⟨bd, kvs, g1, g2, ?_⟩
  rcases g3 with ⟨ρ, r1, r2⟩ | ⟨x, r1, r2, r3, r4⟩
  · exact .inl ⟨ρ, r1, fun H1 s => hq _ _ (r2 H1 s)⟩
  · exact .inr ⟨x, r1, r2, r3, fun d H' s e => hE _ _ _ (r4 d H' s e)⟩
theorem spHangs.mono {C Cn Cm : Addr} {vs : List V} {H : Hp} {Q Q' : VK} {E E' : XK} (h : spHangs C Cn Cm vs H Q E) (hq : ∀ v H1, Q v H1 → Q' v H1) (hE : ∀ c o H1, E c o H1 → E' c o H1) : spHangs C Cn Cm vs H Q' E' := by
  obtain ⟨v, v2, d, e, a, h1, h2⟩ := h
  refine ⟨v, v2, d, e, a, fun z H' s => hE _ _ _ (h1 z H' s), fun z => ?_⟩
  obtain ⟨f, e1, e2, e3, e5, e6⟩ := h2 z
  refine ⟨f, e1, e2, e3, fun z H' s => hE _ _ _ (e5 z H' s), fun z => ?_⟩
  obtain ⟨d2, g1, g2, g3⟩ := e6 z
  refine ⟨d2, g1, g2, ?_⟩
  rcases g3 with ⟨r1, r2⟩ | ⟨x, ys, r1, r2, r3, r4, r5⟩
  · exact .inl ⟨r1, fun d H' s e => hE _ _ _ (r2 d H' s e)⟩
  · refine .inr ⟨x, ys, r1, r2, r3, r4, ?_⟩
    rcases r5 with ⟨l, r⟩ | ⟨l, r⟩
    · exact .inl ⟨l, fun d H' s e => hE _ _ _ (r d H' s e)⟩
    · exact .inr ⟨l, fun b H1 s i => hq _ _ (r b H1 s i)⟩
theorem JoinAsk.mono {C : Addr} {w b : Bool} {xs : List V} {H : Hp} {Q Q' : VK} {E E' : XK} (h : JoinAsk C w b xs H Q E) (hq : ∀ v H1, Q v H1 → Q' v H1) (hE : ∀ c o H1, E c o H1 → E' c o H1) : JoinAsk C w b xs H Q' E' := by
  obtain ⟨hl, h⟩ := h
  refine ⟨hl, ?_⟩
  rcases h with ⟨ds, h1, h2, h3, h4⟩ | ⟨fs, h1, h2, h3, h4⟩
  · exact .inl ⟨ds, h1, h2, h3, fun H' s => hE _ _ _ (h4 H' s)⟩
  · refine .inr ⟨fs, h1, h2, h3, ?_⟩
    rcases h4 with ⟨e, q⟩ | ⟨x, e, q⟩ | ⟨l, q1, q2⟩
    · exact .inl ⟨e, fun u H1 s d => hq _ _ (q u H1 s d)⟩
    · exact .inr (.inl ⟨x, e, fun H1 s => hq _ _ (q H1 s)⟩)
    · exact .inr (.inr ⟨l, fun e u H1 s d => hq _ _ (q1 e u H1 s d), fun e H' s => hE _ _ _ (q2 e H' s)⟩)
section
variable {P : Program} {w : World} {K : PySem.W.Frag} {mg : Str → Option Value} {base : Heap}
theorem ok_deep {k : Nat} (D : Pr P K mg) : FnOk P w K mg base CX0 (k + 2) D._law_deep.f D._law_deep.fd ["numbers", "leaf", "other", "depth"] spDeep := by
  have G__law_draw : FnOk P w K mg base CX0 (k + 1) D._law_draw.f D._law_draw.fd ["numbers", "many"] spDraw := ok_drawD D
  refine D._law_deep.F.ok sc__law_deep (fun vs H Q E h => ?_) (fun cdv A outer s H vs Q E hr h => ?_)
  · obtain ⟨a, v1, v2, f, b, c, d, rfl, _⟩ := h
    rfl
  · obtain ⟨a, v1, v2, f, b, c, d, rfl, h1, h41, nn, hd1, df, hd2, q⟩ := h
    have two : (2 : Nat) ≤ sizeLine := by decide
    refine ⟨_, (pss_cons (ps_set (i := 4) sc__law_deep.nd rfl (.inl rfl) (pv 1))
      (pss_cons (ps_for PassesOwn.never rfl (pi_range1 (by rfl) D.B.range (pa_cons (pe_op op_sub (pv 3) pe_int) pa_nil)) (pg_name (i := 5) sc__law_deep.nd rfl (.inl rfl)) (pss_cons (ps_set (i := 6) sc__law_deep.nd rfl (.inl rfl) (pe_call G__law_draw (hr.mono (by omega)) (by rfl) D._law_draw.g D._law_draw.F.kp D._law_draw.b .nil pass0 (pa_cons (pv 0) (pa_cons pe_int pa_nil)))) (pss_one (ps_if (pt_cmpR op_eq (pv 6) pe_int (nomark _)) (pss_one (ps_set (i := 4) sc__law_deep.nd rfl (.inl rfl) (pe_tup (pa_cons pe_str (pa_cons (pe_tup (pa_cons (pv 4) (pa_cons (pv 2) pa_nil))) pa_nil))))) (pss_one (ps_if (pt_cmpR op_eq (pv 6) pe_int (nomark _)) (pss_one (ps_set (i := 4) sc__law_deep.nd rfl (.inl rfl) (pe_tup (pa_cons pe_str (pa_cons (pe_tup (pa_cons (pv 2) (pa_cons (pv 4) pa_nil))) pa_nil))))) (pss_one (ps_set (i := 4) sc__law_deep.nd rfl (.inl rfl) (pe_tup (pa_cons pe_str (pa_cons (pv 4) pa_nil)))))))))))
      (pss_one (ps_ret (pv 4))))), ?_⟩
    refine ⟨v1, rfl, .int (d : Nat), rfl, (d : Nat), 1, rfl, rfl, _, rfl, by omega, by omega, ?_⟩
    rw [show ((d : Int) - 1).toNat = d - 1 by omega]
    refine forRg (n := d - 1) (fun i σ H' => ∃ (v : V) (g : Fm) (c5 c6 : Option V), σ = [some (.ref a), some v1, some v2, some (.int (d : Nat)), some v, c5, c6] ∧ SameB a H H' ∧ NumsAt H' a ∧ Dh H' v g.data ∧ DeepF g (i + 1) c ∧ Dh H' v2 (Fm.bit b).data) ⟨v1, f, _, _, rfl, fun b o _ e => e, nn, hd1, df, hd2⟩ ?_ ?_
    · rintro i σ H2 hi ⟨v, g, c5, c6, rfl, s2, n2, hg, dg, hb⟩
      refine ⟨.ref a, rfl, a, 4, rfl, by decide, n2, fun H3 r hr3 s3 n3 => ?_⟩
      have hg3 : Dh H3 v g.data := Dh.tups (s3.tups n2) _ _ (noL_data g) hg
      have hb3 : Dh H3 v2 (Fm.bit b).data := Dh.tups (s3.tups n2) _ _ (noL_data (.bit b)) hb
      have s23 := s2.trans s3
      refine ⟨.int r, rfl, rfl, _, rfl, iteB ⟨v, rfl, v2, rfl, two, fun p1 np1 => ⟨two, fun p2 np2 => ?_⟩⟩ ⟨.int r, rfl, rfl, _, rfl, iteB ⟨v2, rfl, v, rfl, two, fun p1 np1 => ⟨two, fun p2 np2 => ?_⟩⟩ ⟨v, rfl, two, fun p1 np1 => ?_⟩⟩⟩
      · have sq := (same_upd np1 (o := .tup [v, v2])).trans (same_upd np2 (o := .tup [.str "and", .ref p1]))
        exact ⟨_, .joint false [g, .bit b], _, _, rfl, s23.trans (sameB_of sq), n3.same sq, dh_joint upd_same ((same_upd np2) _ _ upd_same) (.cons (hg3.same sq) (.cons (hb3.same sq) .nil)), dg.joint (w := false) (b := b) (s := true), hb3.same sq⟩
      · have sq := (same_upd np1 (o := .tup [v2, v])).trans (same_upd np2 (o := .tup [.str "or", .ref p1]))
        exact ⟨_, .joint true [.bit b, g], _, _, rfl, s23.trans (sameB_of sq), n3.same sq, dh_joint upd_same ((same_upd np2) _ _ upd_same) (.cons (hb3.same sq) (.cons (hg3.same sq) .nil)), dg.joint (w := true) (b := b) (s := false), hb3.same sq⟩
      · have sq := same_upd np1 (o := .tup [.str "not", v])
        exact ⟨_, .not g, _, _, rfl, s23.trans (sameB_of sq), n3.same sq, dh_not upd_same (hg3.same sq), dg.not, hb3.same sq⟩
    · rintro σ H2 ⟨v, g, c5, c6, rfl, s2, n2, hg, dg, hb⟩
      rw [show d - 1 + 1 = d by omega] at dg
      exact ⟨v, rfl, q v H2 g s2 n2 hg dg⟩
theorem ok_word {k : Nat} (D : Pr P K mg) : FnOk P w K mg base (CX P w) (k + 44) D._law_word.f D._law_word.fd ["turn", "formula", "second"] (spWord D.BadFormula.C D.BadName.C D.TooMany.C) := by
  have G_turned : FnOk P w K mg base (CX P w) (k + 42) D.turned.f D.turned.fd ["formula"] (spTurned D.BadFormula.C) := ok_turned D
  have G_bit_of : FnOk P w K mg base (CX P w) (k + 42) D.bit_of.f D.bit_of.fd ["formula", "bits"] (spBitOf D.BadFormula.C D.BadName.C) := ok_bitof D
  have G_hangs_on : FnOk P w K mg base (CX P w) (k + 43) D.hangs_on.f D.hangs_on.fd ["formula", "name"] (spHangs D.BadFormula.C D.BadName.C D.TooMany.C) := ok_hangs D
  have G_all_of : FnR P w K mg base (CX P w) (k + 7) D.all_of.f (spStar D.BadFormula.C false true) := ok_allof D
  have G_any_of : FnR P w K mg base (CX P w) (k + 7) D.any_of.f (spStar D.BadFormula.C true false) := ok_anyof D
  refine D._law_word.F.okX sc__law_word (fun vs H Q E h => ?_) (fun cdv A outer s H vs Q E hr h => ?_)
  · obtain ⟨t, v, v2, dW, rfl, _⟩ := h
    rfl
  · obtain ⟨t, v, v2, dW, rfl, h0, h1, h2, h3, h4, h5, q⟩ := h
    have two : (2 : Nat) ≤ sizeLine := by decide
    refine ⟨_, (pss_cons (ps_set (i := 3) sc__law_word.nd rfl (.inl rfl) pe_str)
      (pss_cons (ps_try_manyA rfl rfl sc__law_word.nd takes0 (fun W pn xe tk _ => (pss_one (ps_if (pt_cmpR op_eq (pv 0) pe_int (nomark _)) (pss_one (ps_expr (pe_callS G_turned (hr.mono (by omega)) (by rfl) D.turned.g D.turned.F.kp D.turned.b (fun σ => passAt tk σ) (pa_cons (pv 1) pa_nil)))) (pss_one (ps_if (pt_cmpR op_eq (pv 0) pe_int (nomark _)) (pss_one (ps_expr (pe_callS G_bit_of (hr.mono (by omega)) (by rfl) D.bit_of.g D.bit_of.F.kp D.bit_of.b (fun σ => passAt tk σ) (pa_cons (pv 1) (pa_cons (pv 2) pa_nil))))) (pss_one (ps_if (pt_cmpR op_eq (pv 0) pe_int (nomark _)) (pss_one (ps_expr (pe_callS G_hangs_on (hr.mono (by omega)) (by rfl) D.hangs_on.g D.hangs_on.F.kp D.hangs_on.b (fun σ => passAt tk σ) (pa_cons (pv 1) (pa_cons (pv 2) pa_nil))))) (pss_one (ps_if (pt_cmpR op_eq (pv 0) pe_int (nomark _)) (pss_one (ps_expr (pe_callRS G_all_of (hr.mono (by omega)) (by rfl) D.all_of.g D.all_of.F.kp (fun σ => passAt tk σ) (pa_cons (pv 1) pa_nil)))) (pss_one (ps_if (pt_cmpR op_eq (pv 0) pe_int (nomark _)) (pss_one (ps_expr (pe_callRS G_any_of (hr.mono (by omega)) (by rfl) D.any_of.g D.any_of.F.kp (fun σ => passAt tk σ) (pa_cons (pv 2) (pa_cons (pv 1) pa_nil))))) (pss_one (ps_expr (pe_callRS G_all_of (hr.mono (by omega)) (by rfl) D.all_of.g D.all_of.F.kp (fun σ => passAt tk σ) (pa_cons (pv 1) (pa_cons (pv 2) (pa_cons (pv 1) pa_nil)))))))))))))))))
        (HdsA.plain (c := .ref D.BadFormula.C) ⟨by rfl, by decide, .inl D.BadFormula.g⟩ (fun a oe cls d pn hz hv => (pss_one (ps_set (i := 3) sc__law_word.nd rfl (.inl rfl) pe_str)))
        (HdsA.named (i := 4) (c := .ref D.BadName.C) ⟨by rfl, by decide, .inl D.BadName.g⟩ rfl rfl (fun a oe cls d pn hz hv => (pss_one (ps_set (i := 3) sc__law_word.nd rfl (.inl rfl) (pe_tup (pa_cons pe_str (pa_cons (pe_xf D.BadName.X (D.BadName.nf _ (by simp)) hz hv (pv 4)) pa_nil))))))
        (HdsA.named (i := 4) (c := .ref D.TooMany.C) ⟨by rfl, by decide, .inl D.TooMany.g⟩ rfl rfl (fun a oe cls d pn hz hv => (pss_one (ps_set (i := 3) sc__law_word.nd rfl (.inl rfl) (pe_tup (pa_cons pe_str (pa_cons (pe_xf D.TooMany.X (D.TooMany.nf _ (by simp)) hz hv (pv 4)) pa_nil))))))
        (HdsA.plain (c := .ref D.a_RungsError.C) ⟨by rfl, by decide, .inl D.a_RungsError.g⟩ (fun a oe cls d pn hz hv => (pss_one (ps_set (i := 3) sc__law_word.nd rfl (.inl rfl) pe_str)))
        HdsA.nil)))))
      (pss_one (ps_ret (pv 3))))), ?_⟩
    have none_ : ∀ (v' : V) (H1 : Hp) (σ : L2.St), WQ H dW v' H1 → σ[3]? = some (some (.str "none")) → (∃ x, σ[3]? = some (some x) ∧ Q x H1) := fun v' H1 σ ⟨s1, e⟩ h3 => ⟨_, h3, q _ H1 s1 (by rw [e]; exact .str _)⟩
    have hand : ∀ (c : Value) (o : Option Addr) (H1 : Hp), WE D.BadFormula.C D.BadName.C D.TooMany.C H dW c o H1 → wManyA K (fun _ _ _ _ => False) { nx := tRet (tVar 3) { nx := fun _ H' => Q V.non H', rt := Q }, rt := Q }
        [(Value.ref D.BadFormula.C, none, fun a cls d => tAsg (tC (V.str (Str.ofString "formula"))) (gName 3)),
        (Value.ref D.BadName.C, some 4, fun a cls d => tAsg (tTup (tCons (tC (V.str (Str.ofString "name"))) (tCons (tXf a cls d D.BadName.C (Str.ofString "name") (tVar 4)) tNil))) (gName 3)),
        (Value.ref D.TooMany.C, some 4, fun a cls d => tAsg (tTup (tCons (tC (V.str (Str.ofString "many"))) (tCons (tXf a cls d D.TooMany.C (Str.ofString "limit") (tVar 4)) tNil))) (gName 3)),
        (Value.ref D.a_RungsError.C, none, fun a cls d => tAsg (tC (V.str (Str.ofString "other"))) (gName 3))] c o [some (.int (t : Nat)), some v, some v2, some (.str "none"), none] H1 := by
      rintro c o H1 ⟨s1, ⟨rfl, rfl, rfl⟩ | ⟨rfl, d, x, dx, rfl, ed, hx, rfl⟩ | ⟨rfl, d, rfl, ed, rfl⟩⟩
      · exact ⟨true, D.x_BadFormula_BadFormula, fun _ a na => ⟨.str "formula", rfl, q _ H1 s1 (.str _)⟩, fun z => Bool.noConfusion z⟩
      · refine ⟨false, D.x_BadName_BadFormula, fun z => Bool.noConfusion z, fun _ => ⟨true, D.x_BadName_BadName, fun _ a na => ?_, fun z => Bool.noConfusion z⟩⟩
        exact ⟨.ref a, rfl, rfl, rfl, d, _, x, rfl, ed, rfl, two, fun p np => ⟨.ref p, rfl, q _ _ (s1.trans (same_upd np)) (.tup upd_same (.cons (.str _) (.cons (hx.same (same_upd np)) .nil)))⟩⟩
      · refine ⟨false, D.x_TooMany_BadFormula, fun z => Bool.noConfusion z, fun _ => ⟨false, D.x_TooMany_BadName, fun z => Bool.noConfusion z, fun _ => ⟨true, D.x_TooMany_TooMany, fun _ a na => ?_, fun z => Bool.noConfusion z⟩⟩⟩
        exact ⟨.ref a, rfl, rfl, rfl, d, _, .int 10, rfl, ed, rfl, two, fun p np => ⟨.ref p, rfl, q _ _ (s1.trans (same_upd np)) (.tup upd_same (.cons (.str _) (.cons (.int _) .nil)))⟩⟩
    have step : ∀ (n : Nat) {p q : Prop}, (t = n → p) → (t ≠ n → q) → if decide (V.int (t : Nat) = V.int (n : Nat)) = true then p else q := fun n p q h1 h2 => by
      rw [intEq]
      by_cases h : t = n
      · rw [decide_eq_true h, if_pos rfl]; exact h1 h
      · rw [decide_eq_false h, if_neg Bool.false_ne_true]; exact h2 h
    refine ⟨.int (t : Nat), rfl, rfl, _, rfl, step 0 (fun e => ⟨v, rfl, (h0 e).mono (fun v' H1 hw => none_ v' H1 _ hw rfl) fun c o H1 hw => hand c o H1 hw⟩) fun n0 => ?_⟩
    refine ⟨.int (t : Nat), rfl, rfl, _, rfl, step 1 (fun e => ⟨v, rfl, v2, rfl, (h1 e).mono (fun v' H1 hw => none_ v' H1 _ hw rfl) fun c o H1 hw => hand c o H1 hw⟩) fun n1 => ?_⟩
    refine ⟨.int (t : Nat), rfl, rfl, _, rfl, step 2 (fun e => ⟨v, rfl, v2, rfl, (h2 e).mono (fun v' H1 hw => none_ v' H1 _ hw rfl) fun c o H1 hw => hand c o H1 hw⟩) fun n2 => ?_⟩
    refine ⟨.int (t : Nat), rfl, rfl, _, rfl, step 3 (fun e => ⟨v, rfl, (h3 e).mono (fun v' H1 hw => none_ v' H1 _ hw rfl) fun c o H1 hw => hand c o H1 hw⟩) fun n3 => ?_⟩
    refine ⟨.int (t : Nat), rfl, rfl, _, rfl, step 4 (fun e => ⟨v2, rfl, v, rfl, (h4 e).mono (fun v' H1 hw => none_ v' H1 _ hw rfl) fun c o H1 hw => hand c o H1 hw⟩) fun n4 => ?_⟩
    exact ⟨v, rfl, v2, rfl, v, rfl, (h5 (by omega)).mono (fun v' H1 hw => none_ v' H1 _ hw rfl) fun c o H1 hw => hand c o H1 hw⟩
end
end K7

set_option Elab.async false
set_option linter.all false
set_option maxRecDepth 100000
set_option maxHeartbeats 4000000
namespace K7
open PySem PySem.Spec PyProof.Rows L2 GX NdefX
/-! ### _law_bits_right -/
def lstD (ys : List Str) : PyData := .list (ys.map PyData.str)
theorem lst_lay {ys : List Str} (h : ∀ y ∈ ys, nameB y = true) : (lstD ys).canLay0 = true ∧ (lstD ys).depth ≤ 150 := by
  have := tup_lay h
  unfold tupD at this
  unfold lstD
  simp only [PyData.canLay0, PyData.depth] at this ⊢
  exact this
theorem lst_dh {H : Hp} {a : Addr} {ys : List Str} (h : H a = some (.lst (txs ys))) : Dh H (.ref a) (lstD ys) := by
  refine .lst h ?_
  clear h
  unfold txs
  induction ys with
  | nil => exact .nil
  | cons y r ih => exact .cons (.str y) ih
theorem valV_zip : ∀ {ks : List L2.Key} {vs : List V} {i : Nat} {k : L2.Key} {v : V}, ks.Nodup → ks[i]? = some k → vs[i]? = some v → valV (ks.zip vs) k = some v
  | [], _, i, _, _, _, h, _ => by simp at h
  | a :: ks, [], i, _, _, _, _, h => by simp at h
  | a :: ks, b :: vs, 0, k, v, nd, h1, h2 => by
    obtain rfl : a = k := by simpa using h1
    obtain rfl : b = v := by simpa using h2
    exact valV_pos (p := (a, b)) rfl
  | a :: ks, b :: vs, i + 1, k, v, nd, h1, h2 => by
    obtain ⟨n1, n2⟩ := List.nodup_cons.mp nd
    have h1 : ks[i]? = some k := by simpa using h1
    have : ¬ a = k := fun e => n1 (e ▸ List.mem_of_getElem? h1)
    rw [List.zip_cons_cons, valV_neg (p := (a, b)) this]
    exact valV_zip n2 h1 (by simpa using h2)
/-- what the formula and its names are -/
structure BitsIn (H : Hp) (v : V) (na oa : Addr) (f : Fm) (ys os : List Str) : Prop where
  dh : Dh H v f.data
  ok : f.ok = true
  dep : f.dep ≤ 39
  cnt : f.cnt ≤ 100
  eds : f.eds = []
  na : H na = some (.lst (txs ys))
  oa : H oa = some (.lst (txs os))
  told : Told ys f.nms
  len : ys.length ≤ 10
  olen : os.length ≤ 1000
  onm : ∀ o ∈ os, nameB o = true ∧ o ∉ f.nms
theorem BitsIn.same {H H' : Hp} {v : V} {na oa : Addr} {f : Fm} {ys os : List Str} (h : BitsIn H v na oa f ys os) (s : Same H H') : BitsIn H' v na oa f ys os :=
  ⟨h.dh.same s, h.ok, h.dep, h.cnt, h.eds, s _ _ h.na, s _ _ h.oa, h.told, h.len, h.olen, h.onm⟩
theorem BitsIn.keep {H H' : Hp} {v : V} {na oa L : Addr} {f : Fm} {ys os : List Str} (h : BitsIn H v na oa f ys os) (n1 : na ≠ L) (n2 : oa ≠ L) (s : ∀ b o, b ≠ L → H b = some o → H' b = some o) (t : TupK H H') : BitsIn H' v na oa f ys os :=
  ⟨Dh.tups t _ _ (noL_data f) h.dh, h.ok, h.dep, h.cnt, h.eds, s _ _ n1 h.na, s _ _ n2 h.oa, h.told, h.len, h.olen, h.onm⟩
theorem BitsIn.names {H : Hp} {v : V} {na oa : Addr} {f : Fm} {ys os : List Str} (h : BitsIn H v na oa f ys os) : ∀ y ∈ ys, nameB y = true := fun y m => (told_names_ok h.ok).1 y ((h.told.2.2 y).mp m)
theorem BitsIn.form {H : Hp} {v : V} {na oa : Addr} {f : Fm} {ys os : List Str} (h : BitsIn H v na oa f ys os) : formL 40 [f.data] = true := by
  rw [form_data f h.ok]; exact decide_eq_true (by have := h.dep; omega)
section
variable {P : Program} {w : World} {K : PySem.W.Frag} {mg : Str → Option Value} {base : Heap}
theorem br_3 {k : Nat} (D : Pr P K mg) (f : Addr) (cdv : Value) (A : Around) (outer : List Env) (s : Shared) (H0 : Hp) (Q : VK) (E : XK) (hr : Room (k + 44) (A.deeper (envOfC "_law_bits_right" (defScope s__law_bits_right) s.heap.objs.size f cdv))) :
    ∃ t, PSs (cxOf (CX P w) P w K mg base n__law_bits_right "_law_bits_right" (defScope s__law_bits_right) f cdv A outer s H0 E) ((defBody s__law_bits_right).drop 10) t ∧ ∀ (v : V) (na oa hl : Addr) (F : Fm) (ys os hs : List Str) (c3 c4 c5 c6 c7 c8 c9 c10 c12 c13 c14 : Option V) (H : Hp), BitsIn H v na oa F ys os → H hl = some (.lst (txs hs)) → (∀ x, x ∈ hs ↔ x ∈ ys ∧ Hangs F x) → (∀ H1, Same H H1 → Q (.bl true) H1) →
      t { nx := fun _ H' => Q V.non H', rt := Q } [some v, some (.ref na), some (.ref oa), c3, c4, c5, c6, c7, c8, c9, c10, some (.ref hl), c12, c13, c14, none, none] H := by
  have G_hangs_on : FnOk P w K mg base (CX P w) (k + 43) D.hangs_on.f D.hangs_on.fd ["formula", "name"] (spHangs D.BadFormula.C D.BadName.C D.TooMany.C) := ok_hangs D
  refine ⟨_, (pss_cons (ps_for (by passes_own) rfl (pi_list (pe_op op_cat (pv 1) (pv 2))) (pg_name (i := 15) sc__law_bits_right.nd rfl (.inl rfl)) (pss_cons (ps_set (i := 16) sc__law_bits_right.nd rfl (.inl rfl) (pe_call G_hangs_on (hr.mono (by omega)) (by rfl) D.hangs_on.g D.hangs_on.F.kp D.hangs_on.b .nil (passes_call (takes_of rfl rfl rfl rfl) (fun _ _ _ _ h => h)) (pa_cons (pv 0) (pa_cons (pv 15) pa_nil)))) (pss_one (ps_if (PW.pt (pw_or (pt_not (pt_val (pe_callB call_isi (by rfl) D.B.isinstance (by decide +kernel) (pa_cons (pv 16) (pa_cons (pe_bltn (v := .ty "bool") (u := .type "bool") (by rfl) D.B.bool (by decide +kernel) rfl) pa_nil))))) (pw_or1 (pt_cmpR op_ne (pv 16) (pe_cmpR op_in_seq (pv 15) (pv 11) (by rfl)) (nomark _))))) (pss_one (ps_ret pe_bl)) pss_nil))))
      (pss_one (ps_ret pe_bl))), ?_⟩
  intro v na oa hl F ys os hs c3 c4 c5 c6 c7 c8 c9 c10 c12 c13 c14 H b eh hh q
  have es : sizeLine = 16777216 := sizeLine_eq
  have l1 := b.len
  have l2 := b.olen
  refine ⟨.ref na, rfl, .ref oa, rfl, na, oa, _, _, rfl, rfl, b.na, b.oa, by rw [txs_len, txs_len]; omega, fun p np => ⟨p, rfl, ⟨_, sqL upd_same⟩, ?_⟩⟩
  rw [show txs ys ++ txs os = txs (ys ++ os) by unfold txs; rw [List.map_append]]
  have sp := same_upd np (o := .lst (txs (ys ++ os)))
  refine forLs (fun i σ H' => (∃ c15 c16, σ = [some v, some (.ref na), some (.ref oa), c3, c4, c5, c6, c7, c8, c9, c10, some (.ref hl), c12, c13, c14, c15, c16]) ∧ Same (upd H p (.lst (txs (ys ++ os)))) H') upd_same ⟨⟨_, _, rfl⟩, Same.refl _⟩ (fun i σ H' ⟨_, s2⟩ => s2 _ _ upd_same) ?_ ?_
  · rintro i x σ H2 hx ⟨⟨c15, c16, rfl⟩, s2⟩
    obtain ⟨z, ez, rfl⟩ := txs_get hx
    have mz := List.mem_of_getElem? ez
    have sH := sp.trans s2
    have b2 := b.same sH
    have nz : nameB z = true := by
      rcases List.mem_append.mp mz with m | m
      · exact b.names z m
      · exact (b.onm z m).1
    refine ⟨v, rfl, .str z, rfl, v, .str z, F.data, rfl, arg_data b2.dh b.ok (by have := b.cnt; omega), fun e => (by rw [b.form] at e; cases e), fun _ => ⟨F, rfl, by have := b.cnt; omega, by have := b.dep; omega, fun e => absurd b.eds e, fun _ => ⟨.str z, .str z, name_strD nz, .inr ⟨z, ys, rfl, rfl, nz, b.told, .inr ⟨l1, fun r H3 s3 hr3 => ?_⟩⟩⟩⟩⟩
    refine ⟨.bl r, rfl, _, _, .type "bool", _, true, rfl, .ty "bool", .base (.bl r), kit_ty (by decide +kernel), true, rfl, iteF ?_⟩
    refine ⟨.bl r, rfl, .str z, rfl, .ref hl, rfl, hl, _, rfl, .inl (sqL (s3 _ _ (sH _ _ eh))), rfl, flat_txs _, ?_⟩
    have er : r = decide (z ∈ hs) := by
      by_cases m : z ∈ hs
      · rw [decide_eq_true m]; exact hr3.mpr ((hh z).mp m).2
      · rw [decide_eq_false m]
        cases r with
        | false => rfl
        | true =>
          exfalso
          have hg := hr3.mp rfl
          rcases List.mem_append.mp mz with m2 | m2
          · exact m ((hh z).mpr ⟨m2, hg⟩)
          · exact not_hangs (b.onm z m2).2 hg
    refine ⟨rfl, _, rfl, iteFq ?_ ⟨⟨_, _, rfl⟩, s2.trans s3⟩⟩
    show (!decide (V.bl r = V.bl (if false = true then _ else inV (V.str z) (txs hs)))) = false
    rw [if_neg Bool.false_ne_true, inTxs, er, decide_eq_true rfl]; rfl
  · rintro σ H2 ⟨⟨c15, c16, rfl⟩, s2⟩
    exact q H2 (sp.trans s2)
theorem br_2 {k : Nat} (D : Pr P K mg) (f : Addr) (cdv : Value) (A : Around) (outer : List Env) (s : Shared) (H0 : Hp) (Q : VK) (E : XK) (hr : Room (k + 44) (A.deeper (envOfC "_law_bits_right" (defScope s__law_bits_right) s.heap.objs.size f cdv))) :
    ∃ t, PSs (cxOf (CX P w) P w K mg base n__law_bits_right "_law_bits_right" (defScope s__law_bits_right) f cdv A outer s H0 E) ((defBody s__law_bits_right).drop 7) t ∧ ∀ (v : V) (na oa R dl : Addr) (F : Fm) (ys os : List Str) (ds : List Bool) (c3 c4 c7 c8 c9 c10 : Option V) (H : Hp), BitsIn H v na oa F ys os → RowsAt H R ys.length (2 ^ ys.length) → H dl = some (.lst (bls ds)) → ds.length = 2 ^ ys.length → (∀ r < 2 ^ ys.length, ds[r]? = some (F.ev (rowV ys r))) → (∀ H1, Same H H1 → Q (.bl true) H1) →
      t { nx := fun _ H' => Q V.non H', rt := Q } [some v, some (.ref na), some (.ref oa), c3, c4, some (.ref R), some (.ref dl), c7, c8, c9, c10, none, none, none, none, none, none] H := by
  obtain ⟨tT, hT, rT⟩ := br_3 (w := w) (base := base) D f cdv A outer s H0 Q E hr
  refine ⟨_, (pss_cons (ps_set (i := 11) sc__law_bits_right.nd rfl (.inl rfl) (pe_lst pa_nil))
      (pss_cons (ps_set (i := 12) sc__law_bits_right.nd rfl (.inl rfl) (pe_callB call_len (by rfl) D.B.len PySem.boot_len (pa_cons (pv 5) pa_nil)))
      (pss_cons (ps_for (by passes_own) rfl (pi_range1 (by rfl) D.B.range (pa_cons (pe_callB call_len (by rfl) D.B.len PySem.boot_len (pa_cons (pv 1) pa_nil)) pa_nil)) (pg_name (i := 13) sc__law_bits_right.nd rfl (.inl rfl)) (pss_cons (ps_set (i := 12) sc__law_bits_right.nd rfl (.inl rfl) (pe_op (r := rFloorDivN) op_FloorDivN (pv 12) pe_int)) (pss_one (ps_for (by passes_own) rfl (pi_range1 (by rfl) D.B.range (pa_cons (pe_callB call_len (by rfl) D.B.len PySem.boot_len (pa_cons (pv 5) pa_nil)) pa_nil)) (pg_name (i := 14) sc__law_bits_right.nd rfl (.inl rfl)) (pss_one (ps_if (PW.pt (pw_and (pt_cmpR op_eq (pe_ix (r := rIxT K) ix_tup (pe_ix (r := rIxL K) ix_list (pv 5) (pv 14) (fun _ _ => rfl)) (pv 13) (fun _ _ => rfl)) pe_int (nomark _)) (pw_and (pt_cmpR op_ne (pe_ix (r := rIxL K) ix_list (pv 6) (pv 14) (fun _ _ => rfl)) (pe_ix (r := rIxL K) ix_list (pv 6) (pe_op (r := rAddN) op_AddN (pv 14) (pv 12)) (fun _ _ => rfl)) (nomark _)) (pw_and1 (pt_cmpR op_notIn_seq (pe_ix (r := rIxL K) ix_list (pv 1) (pv 13) (fun _ _ => rfl)) (pv 11) (by rfl)))))) (pss_one (ps_expr (pe_bm PySem.F.plainAttrs_list PySem.F.slot_list_append PySem.F.type_list_append mt_append (pv 11) (pa_cons (pe_ix (r := rIxL K) ix_list (pv 1) (pv 13) (fun _ _ => rfl)) pa_nil)))) pss_nil))))))
      hT))), ?_⟩
  intro v na oa R dl F ys os ds c3 c4 c7 c8 c9 c10 H b rows ed ld hds q
  have es : sizeLine = 16777216 := sizeLine_eq
  have l1 := b.len
  obtain ⟨m, em⟩ : ∃ m, m = ys.length := ⟨_, rfl⟩
  rw [← em] at rows ld hds l1
  have pm := pow_le12 (m := m) (by omega)
  have nd := b.told.2.1
  have allm : ∀ y ∈ F.nms, y ∈ ys := fun y h => (b.told.2.2 y).mpr h
  refine ⟨by show 0 ≤ sizeLine; omega, fun hl nh => ?_⟩
  have sh := same_upd nh (o := .lst [])
  obtain ⟨as, eR, la, ha⟩ := id rows
  refine ⟨.ref R, rfl, .ref R, ((2 ^ m : Nat) : Nat), rfl, .inl ⟨_, sqL (sh _ _ eR), by rw [List.length_map, la]⟩, ?_⟩
  have hup : ∀ (zs : List Str) (H' : Hp), (∀ b o, b ≠ hl → H b = some o → H' b = some o) → H' hl = some (.lst (txs zs)) → ∀ b o, H b = some o → H' b = some o := fun zs H' h _ b o e => h b o (fun z => by rw [z, nh] at e; cases e) e
  refine ⟨.ref na, rfl, .ref na, (m : Nat), rfl, .inl ⟨_, sqL (sh _ _ b.na), by rw [txs_len, em]⟩, m, rfl, by omega, by omega, ?_⟩
  refine forRg (n := m) (fun k σ H' => ∃ (zs : List Str) (c13 c14 : Option V), σ = [some v, some (.ref na), some (.ref oa), c3, c4, some (.ref R), some (.ref dl), c7, c8, c9, c10, some (.ref hl), some (.int ((2 ^ (m - k) : Nat) : Nat)), c13, c14, none, none] ∧ Same H H' ∧ H' hl = some (.lst (txs zs)) ∧ zs.length ≤ k ∧ ∀ x, x ∈ zs ↔ ∃ k' < k, ys[k']? = some x ∧ Hangs F x) ⟨[], _, _, rfl, sh, upd_same, Nat.le_refl _, fun x => ⟨fun h => (by cases h), fun ⟨k', h, _⟩ => absurd h (by omega)⟩⟩ ?_ ?_
  · rintro k σ H2 hk ⟨zs, c13, c14, rfl, s2, e2, lz, hz⟩
    have e2p : 2 ^ (m - k) = 2 * 2 ^ (m - 1 - k) := by rw [← Nat.pow_succ']; congr 1; omega
    refine ⟨_, rfl, 2 ^ (m - k), 2, rfl, rfl, by omega, by omega, ?_⟩
    rw [e2p, Nat.mul_div_cancel_left _ (by omega)]
    obtain ⟨z, ez⟩ : ∃ z, ys[k]? = some z := ⟨_, List.getElem?_eq_getElem (by omega)⟩
    have hrow := hangs_rows nd allm ez
    rw [← em] at hrow
    refine ⟨.ref R, rfl, .ref R, ((2 ^ m : Nat) : Nat), rfl, .inl ⟨_, sqL (s2 _ _ eR), by rw [List.length_map, la]⟩, ((2 ^ m : Nat) : Int), rfl, by omega, by omega, ?_⟩
    refine forRg (n := 2 ^ m) (fun r σ H' => ∃ (zs' : List Str) (c14 : Option V), σ = [some v, some (.ref na), some (.ref oa), c3, c4, some (.ref R), some (.ref dl), c7, c8, c9, c10, some (.ref hl), some (.int ((2 ^ (m - 1 - k) : Nat) : Nat)), some (.int (k : Nat)), c14, none, none] ∧ Same H H' ∧ H' hl = some (.lst (txs zs')) ∧ zs'.length ≤ k + 1 ∧ (zs'.length ≤ k ∨ z ∈ zs') ∧
      ∀ x, x ∈ zs' ↔ (x ∈ zs ∨ (x = z ∧ ∃ r' < r, r'.testBit (m - 1 - k) = false ∧ F.ev (rowV ys r') ≠ F.ev (rowV ys (r' + 2 ^ (m - 1 - k)))))) ⟨zs, _, rfl, s2, e2, by omega, .inl lz, fun x => ⟨.inl, fun h => h.elim id fun ⟨_, r', h, _⟩ => absurd h (by omega)⟩⟩ ?_ ?_
    · rintro r σ H3 hr3 ⟨zs', c14, rfl, s3, e3, lz', lz2, hz'⟩
      obtain ⟨a, ea⟩ : ∃ a, as[r]? = some a := ⟨_, List.getElem?_eq_getElem (by omega)⟩
      have hrow3 := s3 _ _ (ha r a ea)
      have skip : (r.testBit (m - 1 - k) = true ∨ F.ev (rowV ys r) = F.ev (rowV ys (r + 2 ^ (m - 1 - k))) ∨ z ∈ zs') → ∃ (zs' : List Str) (c14 : Option V), [some v, some (.ref na), some (.ref oa), c3, c4, some (.ref R), some (.ref dl), c7, c8, c9, c10, some (.ref hl), some (.int ((2 ^ (m - 1 - k) : Nat) : Nat)), some (.int (k : Nat)), some (.int (r : Nat)), none, none] = [some v, some (.ref na), some (.ref oa), c3, c4, some (.ref R), some (.ref dl), c7, c8, c9, c10, some (.ref hl), some (.int ((2 ^ (m - 1 - k) : Nat) : Nat)), some (.int (k : Nat)), c14, none, none] ∧ Same H H3 ∧ H3 hl = some (.lst (txs zs')) ∧ zs'.length ≤ k + 1 ∧ (zs'.length ≤ k ∨ z ∈ zs') ∧
        ∀ x, x ∈ zs' ↔ (x ∈ zs ∨ (x = z ∧ ∃ r' < r + 1, r'.testBit (m - 1 - k) = false ∧ F.ev (rowV ys r') ≠ F.ev (rowV ys (r' + 2 ^ (m - 1 - k))))) := fun no => by
        refine ⟨zs', _, rfl, s3, e3, lz', lz2, fun x => ⟨fun h => ((hz' x).mp h).imp id fun ⟨e, r', h1, h2⟩ => ⟨e, r', by omega, h2⟩, fun h => ?_⟩⟩
        rcases h with h | ⟨rfl, r', h1, h2, h3⟩
        · exact (hz' x).mpr (.inl h)
        · rcases Nat.lt_or_ge r' r with h | h
          · exact (hz' x).mpr (.inr ⟨rfl, r', h, h2, h3⟩)
          · obtain rfl : r' = r := by omega
            rcases no with no | no | no
            · rw [no] at h2; cases h2
            · exact absurd no h3
            · exact no
      refine ⟨.ref R, rfl, .int (r : Nat), rfl, R, _, r, .ref a, rfl, rfl, sqL (s3 _ _ eR), atI_nat (by rw [List.getElem?_map, ea]; rfl), .int (k : Nat), rfl, a, _, k, _, rfl, rfl, sqT hrow3, atI_nat (bitsV_get hk), rfl, _, rfl, ?_⟩
      rw [show decide (V.int ((r.testBit (m - 1 - k)).toNat : Nat) = V.int 0) = decide ((r.testBit (m - 1 - k)).toNat = 0) from intEq _ 0]
      cases hb : r.testBit (m - 1 - k) with
      | true => exact iteF (iteF (skip (.inl hb)))
      | false =>
        have hlt : r + 2 ^ (m - 1 - k) < 2 ^ m := by
          refine Nat.lt_pow_two_of_testBit _ fun i hi => ?_
          rw [bit_add hb, if_neg (by omega)]
          exact Nat.testBit_lt_two_pow (Nat.lt_of_lt_of_le hr3 (Nat.pow_le_pow_right (by decide) hi))
        have ed3 := s3 _ _ ed
        refine iteT ⟨.ref dl, rfl, .int (r : Nat), rfl, dl, _, r, .int ((F.ev (rowV ys r)).toNat : Nat), rfl, rfl, sqL ed3, atI_nat (by unfold bls; rw [List.getElem?_map, hds r hr3]; rfl), .ref dl, rfl, .int (r : Nat), rfl, _, rfl, r, 2 ^ (m - 1 - k), rfl, rfl, dl, _, (r + 2 ^ (m - 1 - k) : Nat), .int ((F.ev (rowV ys (r + 2 ^ (m - 1 - k)))).toNat : Nat), rfl, rfl, sqL ed3, atI_nat (by unfold bls; rw [List.getElem?_map, hds _ hlt]; rfl), rfl, _, rfl, ?_⟩
        rw [intEq]
        by_cases hn : F.ev (rowV ys r) = F.ev (rowV ys (r + 2 ^ (m - 1 - k)))
        · rw [hn, decide_eq_true rfl]
          exact iteF (iteF (skip (.inr (.inl hn))))
        · rw [decide_eq_false (fun e => hn (by revert e; cases F.ev (rowV ys r) <;> cases F.ev (rowV ys (r + 2 ^ (m - 1 - k))) <;> decide))]
          refine iteT ⟨.ref na, rfl, .int (k : Nat), rfl, na, _, k, .str z, rfl, rfl, sqL (s3 _ _ b.na), atI_nat (by unfold txs; rw [List.getElem?_map, ez]; rfl), .ref hl, rfl, hl, _, rfl, .inl (sqL e3), rfl, flat_txs _, _, rfl, ?_⟩
          show if (if true = true then (!inV (V.str z) (txs zs')) else _) = true then _ else _
          rw [if_pos rfl, inTxs]
          by_cases mz : z ∈ zs'
          · rw [decide_eq_true mz]
            exact iteF (skip (.inr (.inr mz)))
          · rw [decide_eq_false mz]
            have lzk : zs'.length ≤ k := lz2.resolve_right mz
            refine iteT ⟨.ref hl, rfl, .inl ⟨rfl, _, sqL e3⟩, .ref na, rfl, .int (k : Nat), rfl, na, _, k, .str z, rfl, rfl, sqL (s3 _ _ b.na), atI_nat (by unfold txs; rw [List.getElem?_map, ez]; rfl), hl, _, .str z, rfl, rfl, e3, by rw [txs_len]; omega, zs' ++ [z], _, rfl, fun b o e => ?_, ?_, by rw [List.length_append, List.length_singleton]; omega, .inr (by simp), fun x => ?_⟩
            · rw [upd_ne (fun z => by rw [z, nh] at e; cases e)]; exact s3 _ _ e
            · rw [upd_same]; unfold txs; rw [List.map_append]; rfl
            · rw [List.mem_append, List.mem_singleton]
              constructor
              · rintro (h | h)
                · exact ((hz' x).mp h).imp id fun ⟨e, r', h1, h2⟩ => ⟨e, r', by omega, h2⟩
                · exact .inr ⟨h, r, by omega, hb, hn⟩
              · rintro (h | ⟨h, _⟩)
                · exact .inl ((hz' x).mpr (.inl h))
                · exact .inr h
    · rintro σ H3 ⟨zs', c14, rfl, s3, e3, lz', lz2, hz'⟩
      refine ⟨zs', _, _, by rw [show m - (k + 1) = m - 1 - k by omega], s3, e3, lz', fun x => ?_⟩
      rw [hz' x, hz x]
      constructor
      · rintro (⟨k', h1, h2⟩ | ⟨rfl, r', h1, h2, h3⟩)
        · exact ⟨k', by omega, h2⟩
        · have hlt : r' + 2 ^ (m - 1 - k) < 2 ^ m := by
            refine Nat.lt_pow_two_of_testBit _ fun i hi => ?_
            rw [bit_add h2, if_neg (by omega)]
            exact Nat.testBit_lt_two_pow (Nat.lt_of_lt_of_le h1 (Nat.pow_le_pow_right (by decide) hi))
          exact ⟨k, by omega, ez, hrow.mpr ⟨r', h1, h2, hlt, h3⟩⟩
      · rintro ⟨k', h1, h2, h3⟩
        rcases Nat.lt_or_ge k' k with h | h
        · exact .inl ⟨k', h, h2, h3⟩
        · obtain rfl : k' = k := by omega
          rw [ez] at h2; cases h2
          obtain ⟨r', g1, g2, _, g3⟩ := hrow.mp h3
          exact .inr ⟨rfl, r', g1, g2, g3⟩
  · rintro σ H2 ⟨zs, c13, c14, rfl, s2, e2, lz, hz⟩
    refine rT v na oa hl F ys os zs c3 c4 _ _ c7 c8 c9 c10 _ c13 c14 H2 (b.same s2) e2 (fun x => ?_) fun H1 s1 => q H1 (s2.trans s1)
    rw [hz x]
    constructor
    · rintro ⟨k', h1, h2, h3⟩; exact ⟨List.mem_of_getElem? h2, h3⟩
    · rintro ⟨h1, h2⟩
      obtain ⟨k', e⟩ := List.mem_iff_getElem?.mp h1
      exact ⟨k', by have := (List.getElem?_eq_some_iff.mp e).1; omega, e, h2⟩
theorem br_1 {k : Nat} (D : Pr P K mg) (f : Addr) (cdv : Value) (A : Around) (outer : List Env) (s : Shared) (H0 : Hp) (Q : VK) (E : XK) (hr : Room (k + 44) (A.deeper (envOfC "_law_bits_right" (defScope s__law_bits_right) s.heap.objs.size f cdv))) :
    ∃ t, PSs (cxOf (CX P w) P w K mg base n__law_bits_right "_law_bits_right" (defScope s__law_bits_right) f cdv A outer s H0 E) ((defBody s__law_bits_right).drop 4) t ∧ ∀ (v u : V) (na oa : Addr) (F : Fm) (ys os : List Str) (c4 : Option V) (H : Hp), BitsIn H v na oa F ys os → Dh H u F.neg.data → F.neg.dep ≤ 40 → (∀ H1, Same H H1 → Q (.bl true) H1) →
      t { nx := fun _ H' => Q V.non H', rt := Q } [some v, some (.ref na), some (.ref oa), some u, c4, none, none, none, none, none, none, none, none, none, none, none, none] H := by
  have G__law_all_rows : FnOk P w K mg base CX0 (k + 1) D._law_all_rows.f D._law_all_rows.fd ["many"] spRows := ok_rows D
  have G__law_worth : FnOk P w K mg base CX0 (k + 1) D._law_worth.f D._law_worth.fd ["formula", "bits", "seen"] spWorth := ok_lworth D
  have G_bit_of : FnOk P w K mg base (CX P w) (k + 42) D.bit_of.f D.bit_of.fd ["formula", "bits"] (spBitOf D.BadFormula.C D.BadName.C) := ok_bitof D
  have G__law_int : FnOk P w K mg base CX0 (k + 1) D._law_int.f D._law_int.fd ["value"] spInt := ok_intD D
  obtain ⟨tT, hT, rT⟩ := br_2 (w := w) (base := base) D f cdv A outer s H0 Q E hr
  refine ⟨_, (pss_cons (ps_set (i := 5) sc__law_bits_right.nd rfl (.inl rfl) (pe_call G__law_all_rows (hr.mono (by omega)) (by rfl) D._law_all_rows.g D._law_all_rows.F.kp D._law_all_rows.b .nil pass0 (pa_cons (pe_callB call_len (by rfl) D.B.len PySem.boot_len (pa_cons (pv 1) pa_nil)) pa_nil)))
      (pss_cons (ps_set (i := 6) sc__law_bits_right.nd rfl (.inl rfl) (pe_lst pa_nil))
      (pss_cons (ps_for (by passes_own) rfl (pi_list (pv 5)) (pg_name (i := 7) sc__law_bits_right.nd rfl (.inl rfl)) (pss_cons (ps_set (i := 8) sc__law_bits_right.nd rfl (.inl rfl) (pe_dictZip rfl (pa_cons (pv 1) (pa_cons (pv 7) pa_nil)) (by rfl) D.B.dict (by rfl) (by rfl) D.B.zip)) (pss_cons (ps_set (i := 9) sc__law_bits_right.nd rfl (.inl rfl) (pe_call G__law_worth (hr.mono (by omega)) (by rfl) D._law_worth.g D._law_worth.F.kp D._law_worth.b .nil pass0 (pa_cons (pv 0) (pa_cons (pv 8) (pa_cons pe_dnewK pa_nil))))) (pss_cons (ps_set (i := 10) sc__law_bits_right.nd rfl (.inl rfl) (pe_call G_bit_of (hr.mono (by omega)) (by rfl) D.bit_of.g D.bit_of.F.kp D.bit_of.b .nil (passes_call (takes_of rfl rfl rfl rfl) (fun _ _ _ _ h => h)) (pa_cons (pv 0) (pa_cons (pv 8) pa_nil)))) (pss_cons (ps_if (PW.pt (pw_or (pt_not (pt_val (pe_call G__law_int (hr.mono (by omega)) (by rfl) D._law_int.g D._law_int.F.kp D._law_int.b .nil pass0 (pa_cons (pv 10) pa_nil)))) (pw_or (pt_cmpR op_ne (pv 10) (pv 9) (nomark _)) (pw_or1 (pt_cmpR op_ne (pe_call G_bit_of (hr.mono (by omega)) (by rfl) D.bit_of.g D.bit_of.F.kp D.bit_of.b .nil (passes_call (takes_of rfl rfl rfl rfl) (fun _ _ _ _ h => h)) (pa_cons (pv 3) (pa_cons (pv 8) pa_nil))) (pe_op op_sub pe_int (pv 9)) (nomark _)))))) (pss_one (ps_ret pe_bl)) pss_nil) (pss_one (ps_expr (pe_bm PySem.F.plainAttrs_list PySem.F.slot_list_append PySem.F.type_list_append mt_append (pv 6) (pa_cons (pv 9) pa_nil)))))))))
      hT))), ?_⟩
  intro v u na oa F ys os c4 H b hu hnd q
  have es : sizeLine = 16777216 := sizeLine_eq
  have l1 := b.len
  obtain ⟨f1, f2, f3, f4, f5⟩ := neg_facts F
  have nok : F.neg.ok = true := f3.trans b.ok
  have nform : formL 40 [F.neg.data] = true := by rw [form_data _ nok]; exact decide_eq_true hnd
  have hcn := b.cnt
  have hdp := b.dep
  have nd := b.told.2.1
  have pm := pow_le12 (m := ys.length) (by omega)
  refine ⟨.ref na, rfl, .ref na, (ys.length : Nat), rfl, .inl ⟨_, sqL b.na, by rw [txs_len]⟩, ys.length, rfl, l1, fun R H1 s1 nR rows => ?_⟩
  refine ⟨by show 0 ≤ sizeLine; omega, fun dl nd1 => ?_⟩
  have sd := same_upd nd1 (o := .lst [])
  have nHd : H dl = none := none_of_same s1 nd1
  have rows1 := rows.same sd
  obtain ⟨as, eR, la, ha⟩ := id rows1
  have s01 := s1.trans sd
  have ed0 : upd H1 dl (.lst []) dl = some (.lst []) := upd_same
  generalize upd H1 dl (.lst []) = H2 at sd rows1 eR ha s01 ed0
  have ndR : dl ≠ R := fun e => by
    obtain ⟨as', eR', _⟩ := rows
    rw [e, eR'] at nd1; cases nd1
  refine ⟨.ref R, rfl, R, rfl, ⟨_, sqL eR⟩, forLs (fun r σ H' => ∃ (ds : List Bool) (c7 c8 c9 c10 : Option V), σ = [some v, some (.ref na), some (.ref oa), some u, c4, some (.ref R), some (.ref dl), c7, c8, c9, c10, none, none, none, none, none, none] ∧ Same H H' ∧ RowsAt H' R ys.length (2 ^ ys.length) ∧ H' R = some (.lst (as.map V.ref)) ∧ (∀ (r : Nat) (a : Addr), as[r]? = some a → H' a = some (.tup (bitsV ys.length r))) ∧ H' dl = some (.lst (bls ds)) ∧ ds.length = r ∧ ∀ i < r, ds[i]? = some (F.ev (rowV ys i))) eR ⟨[], _, _, _, _, rfl, s01, rows1, eR, ha, ed0, rfl, fun i h => absurd h (by omega)⟩ (fun r σ H' ⟨_, _, _, _, _, _, _, _, e, _⟩ => e) ?_ ?_⟩
  · rintro r x σ H3 hx ⟨ds, c7, c8, c9, c10, rfl, s3, rows3, eR3, ha3, ed3, ld, hds⟩
    obtain ⟨a, ea, rfl⟩ := refs_get hx
    have hr3 := (List.getElem?_eq_some_iff.mp ea).1
    have erow := ha3 r a ea
    have b3 := b.same s3
    have ek : (ys.map (Sum.inr : Str → L2.Key)).map kV = txs ys := by unfold txs; rw [List.map_map]; rfl
    have ndk : (ys.map (Sum.inr : Str → L2.Key)).Nodup := by
      refine List.pairwise_map.mpr (nd.imp fun h e => h (Sum.inr.inj e))
    refine ⟨.ref na, rfl, .ref a, rfl, na, a, ys.map Sum.inr, bitsV ys.length r, rfl, by rw [ek]; exact sqL b3.na, sqT erow, by rw [bitsV_len, List.length_map], ndk, fun bd nbd => ?_⟩
    have sb := same_upd nbd (o := .dK ((ys.map Sum.inr).zip (bitsV ys.length r)))
    have ebd : upd H3 bd (.dK ((ys.map Sum.inr).zip (bitsV ys.length r))) bd = some (.dK ((ys.map Sum.inr).zip (bitsV ys.length r))) := upd_same
    have val : ∀ x ∈ F.nms, valV ((ys.map (Sum.inr : Str → L2.Key)).zip (bitsV ys.length r)) (.inr x) = some (.int ((rowV ys r x).toNat : Nat)) := fun x m => by
      obtain ⟨i, ei⟩ := List.mem_iff_getElem?.mp ((b.told.2.2 x).mpr m)
      have hi := (List.getElem?_eq_some_iff.mp ei).1
      rw [rowV_get nd ei]
      exact valV_zip ndk (by rw [List.getElem?_map, ei]; rfl) (bitsV_get hi)
    generalize upd H3 bd (.dK ((ys.map Sum.inr).zip (bitsV ys.length r))) = H4 at sb ebd
    have s4 := s3.trans sb
    refine ⟨v, rfl, .ref bd, rfl, fun Z nZ => ⟨v, .ref Z, bd, F, _, rowV ys r, rfl, (b.dh.same s4).same (same_upd nZ), b.eds, by omega, (same_upd nZ) _ _ ebd, val, fun H5 s5 => ?_⟩⟩
    have s45 := (same_upd nZ (o := .dK [])).trans s5
    have b5 := b.same (s4.trans s45)
    refine ⟨v, rfl, .ref bd, rfl, v, .ref bd, F.data, rfl, arg_data b5.dh b.ok (by omega), fun e => (by rw [b.form] at e; cases e), fun _ => ⟨F, rfl, by omega, by omega, fun e => absurd b.eds e, fun _ => ⟨bd, _, rfl, s45 _ _ ebd, .inl ⟨rowV ys r, val, fun H6 s6 => ?_⟩⟩⟩⟩
    refine ⟨.int ((F.ev (rowV ys r)).toNat : Nat), rfl, _, rfl, true, rfl, iteF ?_⟩
    refine ⟨.int ((F.ev (rowV ys r)).toNat : Nat), rfl, .int ((F.ev (rowV ys r)).toNat : Nat), rfl, rfl, _, rfl, iteFq (by rw [decide_eq_true rfl]; rfl) ?_⟩
    have s46 := s45.trans s6
    have hu6 := (hu.same (s4.trans s46))
    refine ⟨u, rfl, .ref bd, rfl, u, .ref bd, F.neg.data, rfl, arg_data hu6 nok (by omega), fun e => (by rw [nform] at e; cases e), fun _ => ⟨F.neg, rfl, by omega, hnd, fun e => absurd (f5.trans b.eds) e, fun _ => ⟨bd, _, rfl, s46 _ _ ebd, .inl ⟨rowV ys r, fun x m => val x (f4 ▸ m), fun H7 s7 => ?_⟩⟩⟩⟩
    refine ⟨.int ((F.ev (rowV ys r)).toNat : Nat), rfl, 1, _, rfl, rfl, rfl, _, rfl, iteFq ?_ ?_⟩
    · rw [ev_neg _ F b.eds]
      cases F.ev (rowV ys r) <;> decide
    have s37 := sb.trans (s46.trans s7)
    refine ⟨.ref dl, rfl, .inl ⟨rfl, _, sqL (s37 _ _ ed3)⟩, .int ((F.ev (rowV ys r)).toNat : Nat), rfl, dl, _, _, rfl, rfl, s37 _ _ ed3, by rw [bls_len]; omega, ?_⟩
    have off : ∀ b o, b ≠ dl → H3 b = some o → (upd H7 dl (.lst (bls ds ++ [V.int ((F.ev (rowV ys r)).toNat : Nat)]))) b = some o := fun b o n e => by rw [upd_ne n]; exact s37 _ _ e
    have ha4 : ∀ (r' : Nat) (a : Addr), as[r']? = some a → (upd H7 dl (.lst (bls ds ++ [V.int ((F.ev (rowV ys r)).toNat : Nat)]))) a = some (.tup (bitsV ys.length r')) := fun r' a' e => off _ _ (fun z => by
      have := ha3 r' a' e
      rw [z, ed3] at this; cases this) (ha3 r' a' e)
    have eR4 := off _ _ ndR.symm eR3
    refine ⟨ds ++ [F.ev (rowV ys r)], _, _, _, _, rfl, fun b o e => off _ _ (fun z => by rw [z, nHd] at e; cases e) (s3 _ _ e), ⟨as, eR4, la, ha4⟩, eR4, ha4, by rw [upd_same, bls_snoc], by rw [List.length_append, List.length_singleton, ld], fun i hi => ?_⟩
    rcases Nat.lt_or_ge i r with h | h
    · rw [List.getElem?_append_left (by omega)]; exact hds i h
    · obtain rfl : i = r := by omega
      rw [List.getElem?_append_right (by omega), ld, Nat.sub_self]; rfl
  · rintro σ H3 ⟨ds, c7, c8, c9, c10, rfl, s3, rows3, eR3, ha3, ed3, ld, hds⟩
    rw [List.length_map, la] at ld hds
    exact rT v na oa R dl F ys os ds (some u) c4 c7 c8 c9 c10 H3 (b.same s3) rows3 ed3 ld hds fun H1 s1 => q H1 (s3.trans s1)
end
end K7

set_option Elab.async false
set_option linter.all false
set_option maxRecDepth 100000
set_option maxHeartbeats 4000000
namespace K7
open PySem PySem.Spec PyProof.Rows L2 GX NdefX
def spBits : Sp := fun vs H Q _ => ∃ (v : V) (na oa : Addr) (f : Fm) (ys os : List Str), vs = [v, .ref na, .ref oa] ∧ BitsIn H v na oa f ys os ∧ ∀ H1, Same H H1 → Q (.bl true) H1
section
variable {P : Program} {w : World} {K : PySem.W.Frag} {mg : Str → Option Value} {base : Heap}
theorem ok_bits {k : Nat} (D : Pr P K mg) : RG.FnG P w K mg base (CX P w) (k + 45) D._law_bits_right.f D._law_bits_right.fd ["formula", "names", "others"] spBits := by
  have G_turned : FnOk P w K mg base (CX P w) (k + 42) D.turned.f D.turned.fd ["formula"] (spTurned D.BadFormula.C) := ok_turned D
  have G__law_turned : FnOk P w K mg base CX0 (k + 1) D._law_turned.f D._law_turned.fd ["formula"] spLTurned := ok_lturned D
  have G_names_of : FnOk P w K mg base (CX P w) (k + 6) D.names_of.f D.names_of.fd ["formula"] (spToldC D.BadFormula.C Fm.nms) := ok_names D
  refine RG.fnG_of D._law_bits_right.F sc__law_bits_right (fun vs H Q E h => ?_) (fun cdv A outer s H vs Q E guard hr h => ?_)
  · obtain ⟨v, na, oa, f, ys, os, rfl, _⟩ := h
    rfl
  · obtain ⟨v, na, oa, f, ys, os, rfl, b, q⟩ := h
    have es : sizeLine = 16777216 := sizeLine_eq
    obtain ⟨tT, hT, rT⟩ := br_1 (w := w) (base := base) D D._law_bits_right.f cdv A outer s H Q E hr
    obtain ⟨f1, f2, f3, f4, f5⟩ := neg_facts f
    have nok : f.neg.ok = true := f3.trans b.ok
    have hcn := b.cnt
    have hdp := b.dep
    have hnd : f.neg.dep ≤ 40 := by omega
    have lay := lay_data f.neg nok
    have dpt := depth_data f.neg
    obtain ⟨sh1, sh2⟩ := show_data f.neg
    have sz := shown_fit nok (by omega)
    refine ⟨_, (pss_cons (ps_set (i := 3) sc__law_bits_right.nd rfl (.inl rfl) (pe_call G_turned (hr.mono (by omega)) (by rfl) D.turned.g D.turned.F.kp D.turned.b .nil (passes_call (takes_of rfl rfl rfl rfl) (fun _ _ _ _ h => h)) (pa_cons (pv 0) pa_nil)))
      (pss_cons (ps_if (PW.pt (pw_or (pt_cmpR (RG.op_neDD hr) (pv 3) (pe_call G__law_turned (hr.mono (by omega)) (by rfl) D._law_turned.g D._law_turned.F.kp D._law_turned.b .nil pass0 (pa_cons (pv 0) pa_nil)) (nomark _)) (pw_or1 (pt_cmpR op_ne (pe_callB (RG.cr_repr guard hr) (by rfl) D.B.repr (by decide +kernel) (pa_cons (pv 3) pa_nil)) (pe_callB (RG.cr_repr guard hr) (by rfl) D.B.repr (by decide +kernel) (pa_cons (pe_call G__law_turned (hr.mono (by omega)) (by rfl) D._law_turned.g D._law_turned.F.kp D._law_turned.b .nil pass0 (pa_cons (pv 0) pa_nil)) pa_nil)) (nomark _))))) (pss_one (ps_ret pe_bl)) pss_nil)
      (pss_cons (ps_set (i := 4) sc__law_bits_right.nd rfl (.inl rfl) (pe_call G_names_of (hr.mono (by omega)) (by rfl) D.names_of.g D.names_of.F.kp D.names_of.b .nil (passes_call (takes_of rfl rfl rfl rfl) (fun _ _ _ _ h => h)) (pa_cons (pv 0) pa_nil)))
      (pss_cons (ps_if (PW.pt (pw_or (pt_not (pt_val (pe_callB call_isi (by rfl) D.B.isinstance (by decide +kernel) (pa_cons (pv 4) (pa_cons (pe_bltn (v := .ty "tuple") (u := .type "tuple") (by rfl) D.B.tuple (by decide +kernel) rfl) pa_nil))))) (pw_or1 (pt_cmpR (RG.op_neDD hr) (pe_callTy call_list_of (by rfl) D.B.list (by decide +kernel) (pa_cons (pv 4) pa_nil)) (pv 1) (nomark _))))) (pss_one (ps_ret pe_bl)) pss_nil)
      hT)))), ?_⟩
    refine ⟨v, rfl, v, f.data, rfl, arg_data b.dh b.ok (by omega), fun e => (by rw [b.form] at e; cases e), fun _ => ⟨f, rfl, by omega, by omega, b.ok, fun e => absurd b.eds e, fun _ => ⟨fun h => absurd h (by omega), fun _ u H1 s1 hu => ?_⟩⟩⟩
    obtain ⟨ua, rfl⟩ := dh_ref hu
    refine ⟨.ref ua, rfl, v, rfl, v, f, rfl, b.dh.same s1, b.eds, by omega, fun u2 H2 s2 hu2 => ?_⟩
    obtain ⟨va, rfl⟩ := dh_ref hu2
    refine ne_same (hu.same s2) hu2 lay (by omega) ⟨_, rfl, iteF ?_⟩
    refine ⟨.ref ua, rfl, ua, _, rfl, (hu.same s2).dp, sh1, sh2, by omega, sz, v, rfl, v, f, rfl, (b.dh.same s1).same s2, b.eds, by omega, fun u3 H3 s3 hu3 => ?_⟩
    obtain ⟨wa, rfl⟩ := dh_ref hu3
    refine ⟨wa, _, rfl, hu3.dp, sh1, sh2, by omega, sz, rfl, _, rfl, iteFq (by rw [decide_eq_true rfl]; rfl) ?_⟩
    have s03 := s1.trans (s2.trans s3)
    have b3 := b.same s03
    refine ⟨v, rfl, v, f.data, rfl, arg_data b3.dh b.ok (by omega), fun e => (by rw [b.form] at e; cases e), fun _ => ⟨f, rfl, by omega, fun zs a H4 tl s4 ea => ?_⟩⟩
    obtain rfl : zs = ys := tl.unique b.told
    have d4 := tup_dh (show H4 a = some (.tup (txs zs)) from ea)
    have hy := lst_lay b.names
    refine ⟨.ref a, rfl, _, _, .type "tuple", _, true, rfl, .ty "tuple", d4.ty, kit_tup d4, true, rfl, iteF ?_⟩
    refine ⟨.ref a, rfl, a, txs zs, rfl, .inr (sqT ea), fun L nL => ⟨.ref na, rfl, ?_⟩⟩
    have s04 := s03.trans s4
    have sL := same_upd nL (o := .lst (txs zs))
    refine ne_same (lst_dh upd_same) (lst_dh (sL _ _ (s04 _ _ b.na))) hy.1 hy.2 ⟨_, rfl, iteF ?_⟩
    exact rT v (.ref ua) na oa f zs os _ _ (b.same (s04.trans sL)) (hu.same (s2.trans (s3.trans (s4.trans sL)))) hnd fun H1 s1' => q H1 ((s04.trans sL).trans s1')
end
end K7

set_option Elab.async false
set_option linter.all false
set_option maxRecDepth 100000
set_option maxHeartbeats 4000000
namespace K7
open PySem PySem.Spec PyProof.Rows L2 GX NdefX
/-! ### _law_lacking_right -/
def Csist (kvs : List (L2.Key × V)) : Prop := ∀ p ∈ kvs, valV kvs p.1 = some p.2 ∧ flatB p.2 = true
theorem Csist.put {kvs : List (L2.Key × V)} (h : Csist kvs) (k : L2.Key) (i : Int) : Csist (putK kvs k (.int i)) := by
  intro p m
  rw [valV_put]
  unfold putK at m
  split at m
  · obtain ⟨q, mq, rfl⟩ := List.mem_map.mp m
    by_cases e : q.1 = k
    · rw [if_pos e]; exact ⟨by rw [if_pos e], rfl⟩
    · rw [if_neg e]; exact ⟨by rw [if_neg e]; exact (h q mq).1, (h q mq).2⟩
  · rename_i hn
    rcases List.mem_append.mp m with m | m
    · have e : ¬ p.1 = k := fun e => hn (List.any_eq_true.mpr ⟨p, m, decide_eq_true e⟩)
      rw [if_neg e]; exact h p m
    · rw [List.mem_singleton.mp m]; exact ⟨if_pos rfl, rfl⟩
def HasB (kvs : List (L2.Key × V)) (x : Str) : Prop := ∃ b : Bool, valV kvs (.inr x) = some (.int (b.toNat : Nat))
theorem HasB.put {kvs : List (L2.Key × V)} {x y : Str} (h : HasB kvs x) (ne : x ≠ y) (i : Int) : HasB (putK kvs (.inr y) (.int i)) x := by
  obtain ⟨b, e⟩ := h
  exact ⟨b, by rw [valV_put, if_neg (fun z => ne (Sum.inr.inj z))]; exact e⟩
def spLacking : Sp := fun vs H Q _ => ∃ (a : Addr) (v : V) (na oa : Addr) (f : Fm) (ys os : List Str), vs = [.ref a, v, .ref na, .ref oa] ∧ BitsIn H v na oa f ys os ∧ NumsAt H a ∧ na ≠ a ∧ oa ≠ a ∧ ∀ H1, SameB a H H1 → NumsAt H1 a → Q (.bl true) H1
theorem named_lay {z : Str} (h : nameB z = true) : (PyData.tuple [.str "name", .str z]).canLay0 = true ∧ (PyData.tuple [.str "name", .str z]).depth ≤ 150 := by
  simp only [PyData.canLay0, PyData.canLayAll0, PyData.depth, PyData.depthAll, name_strOk h]
  decide +kernel
section
variable {P : Program} {w : World} {K : PySem.W.Frag} {mg : Str → Option Value} {base : Heap}
theorem la_tail {k : Nat} (D : Pr P K mg) (f : Addr) (cdv : Value) (A : Around) (outer : List Env) (s : Shared) (H0 : Hp) (Q : VK) (E : XK) (hr : Room (k + 45) (A.deeper (envOfC "_law_lacking_right" (defScope s__law_lacking_right) s.heap.objs.size f cdv))) :
    ∃ t, PSs (cxOf (CX P w) P w K mg base n__law_lacking_right "_law_lacking_right" (defScope s__law_lacking_right) f cdv A outer s H0 E) ((defBody s__law_lacking_right).drop 4) t ∧ ∀ (v : V) (a na oa bd la : Addr) (F : Fm) (ys os ls : List Str) (kvs : List (L2.Key × V)) (c5 : Option V) (H : Hp), BitsIn H v na oa F ys os → H bd = some (.dK kvs) → H la = some (.lst (txs ls)) → Csist kvs →
      ((ls = [] ∧ ∀ y ∈ ys, HasB kvs y) ∨ ∃ (j0 : Nat) (z : Str), ls[0]? = some z ∧ ys[j0]? = some z ∧ valV kvs (.inr z) = none ∧ ∀ j y, j < j0 → ys[j]? = some y → HasB kvs y) → (∀ H1, Same H H1 → Q (.bl true) H1) →
      t { nx := fun _ H' => Q V.non H', rt := Q } [some (.ref a), some v, some (.ref na), some (.ref oa), some (.ref bd), c5, some (.ref la), none] H := by
  have G__law_worth : FnOk P w K mg base CX0 (k + 1) D._law_worth.f D._law_worth.fd ["formula", "bits", "seen"] spWorth := ok_lworth D
  have G_bit_of : FnOk P w K mg base (CX P w) (k + 42) D.bit_of.f D.bit_of.fd ["formula", "bits"] (spBitOf D.BadFormula.C D.BadName.C) := ok_bitof D
  have G__law_word : FnOk P w K mg base (CX P w) (k + 44) D._law_word.f D._law_word.fd ["turn", "formula", "second"] (spWord D.BadFormula.C D.BadName.C D.TooMany.C) := ok_word D
  refine ⟨_, (pss_cons (ps_if (pt_cmpR op_eq (pe_callB call_len (by rfl) D.B.len PySem.boot_len (pa_cons (pv 6) pa_nil)) pe_int (nomark _)) (pss_one (ps_ret (pe_cmpR op_eq (pe_call G_bit_of (hr.mono (by omega)) (by rfl) D.bit_of.g D.bit_of.F.kp D.bit_of.b .nil (passes_call (takes_of rfl rfl rfl rfl) (fun _ _ _ _ h => h)) (pa_cons (pv 1) (pa_cons (pv 4) pa_nil))) (pe_call G__law_worth (hr.mono (by omega)) (by rfl) D._law_worth.g D._law_worth.F.kp D._law_worth.b .nil pass0 (pa_cons (pv 1) (pa_cons (pv 4) (pa_cons pe_dnewK pa_nil)))) (nomark _)))) pss_nil)
      (pss_cons (ps_set (i := 7) sc__law_lacking_right.nd rfl (.inl rfl) (pe_callTy call_dictD (by rfl) D.B.dict (by decide +kernel) (pa_cons (pv 4) pa_nil)))
      (pss_one (ps_ret (pe_and (pe_cmpR (RG.op_eqDD hr) (pe_call G__law_word (hr.mono (by omega)) (by rfl) D._law_word.g D._law_word.F.kp D._law_word.b .nil (passes_call (takes_of rfl rfl rfl rfl) (fun _ _ _ _ h => h)) (pa_cons pe_int (pa_cons (pv 1) (pa_cons (pv 4) pa_nil)))) (pe_tup (pa_cons pe_str (pa_cons (pe_ix (r := rIxL K) ix_list (pv 6) pe_int (fun _ _ => rfl)) pa_nil))) (nomark _)) (pe_one (pe_cmpR (L2.op_eq_dictA (Nat.lt_of_le_of_lt (Nat.le_add_right _ 64) hr.units)) (pv 4) (pv 7) (nomark _)))))))), ?_⟩
  intro v a na oa bd la F ys os ls kvs c5 H b ebd ela cs hl q
  have es : sizeLine = 16777216 := sizeLine_eq
  have hcn := b.cnt
  have hdp := b.dep
  refine ⟨.ref la, rfl, .ref la, (ls.length : Nat), rfl, .inl ⟨_, sqL ela, by rw [txs_len]⟩, rfl, _, rfl, ?_⟩
  rw [show decide (V.int (ls.length : Nat) = V.int 0) = decide (ls.length = 0) from intEq _ 0]
  rcases hl with ⟨rfl, has⟩ | ⟨j0, z, el, ey, nz, before⟩
  · refine iteT ?_
    have hv : ∀ x ∈ F.nms, valV kvs (.inr x) = some (.int ((decide (valV kvs (.inr x) = some (.int 1))).toNat : Nat)) := fun x m => by
      obtain ⟨c, e⟩ := has x ((b.told.2.2 x).mpr m)
      rw [e]
      cases c with
      | true => rw [decide_eq_true (by rfl)]
      | false => rw [decide_eq_false (fun h => by cases (V.int.inj (Option.some.inj h)))]
    refine ⟨v, rfl, .ref bd, rfl, v, .ref bd, F.data, rfl, arg_data b.dh b.ok (by omega), fun e => (by rw [b.form] at e; cases e), fun _ => ⟨F, rfl, by omega, by omega, fun e => absurd b.eds e, fun _ => ⟨bd, kvs, rfl, ebd, .inl ⟨fun x => decide (valV kvs (.inr x) = some (.int 1)), hv, fun H1 s1 => ?_⟩⟩⟩⟩
    refine ⟨v, rfl, .ref bd, rfl, fun Z nZ => ⟨v, .ref Z, bd, F, kvs, _, rfl, (b.dh.same s1).same (same_upd nZ), b.eds, by omega, (same_upd nZ) _ _ (s1 _ _ ebd), hv, fun H2 s2 => ⟨rfl, ?_⟩⟩⟩
    rw [decide_eq_true rfl]
    exact q H2 (s1.trans ((same_upd nZ).trans s2))
  · have ll : ls.length ≠ 0 := fun e => by rw [List.eq_nil_of_length_eq_zero e] at el; cases el
    rw [decide_eq_false ll]
    have my := List.mem_of_getElem? ey
    refine iteF ⟨.ref bd, rfl, bd, kvs, rfl, .inl ebd, fun p np => ?_⟩
    have sp := same_upd np (o := .dK kvs)
    have b1 := b.same sp
    refine ⟨v, rfl, .ref bd, rfl, 1, v, .ref bd, .tuple [.str "name", .str z], rfl, fun e => (by cases e), fun _ => ?_, fun e => (by cases e), fun e => (by cases e), fun e => (by cases e), fun e => absurd e (by omega), fun u H1 s1 hu => ?_⟩
    · refine ⟨v, .ref bd, F.data, rfl, arg_data b1.dh b.ok (by omega), fun e => (by rw [b.form] at e; cases e), fun _ => ⟨F, rfl, by omega, by omega, fun e => absurd b.eds e, fun _ => ⟨bd, kvs, rfl, sp _ _ ebd, .inr ⟨z, (b.told.2.2 z).mp my, nz, fun y m lt => ?_, fun d H' s' e => ⟨s', .inr (.inl ⟨rfl, d, .str z, .str z, rfl, e, .str _, rfl⟩)⟩⟩⟩⟩⟩
      obtain ⟨j, ej⟩ := List.mem_iff_getElem?.mp ((b.told.2.2 y).mpr m)
      have hj := List.getElem?_eq_some_iff.mp ej
      have hj0 := List.getElem?_eq_some_iff.mp ey
      have : j < j0 := by
        rcases Nat.lt_trichotomy j j0 with h | h | h
        · exact h
        · subst h
          rw [ey] at ej; cases ej
          exact absurd lt (List.lt_irrefl _)
        · have up := List.pairwise_iff_getElem.mp b.told.1 j0 j hj0.1 hj.1 h
          rw [hj.2, hj0.2] at up
          exact absurd lt up
      obtain ⟨c, ec⟩ := before j y this ej
      rw [ec]; rfl
    · have sH := sp.trans s1
      have lay := named_lay (b.names z my)
      refine ⟨.ref la, rfl, la, _, 0, .str z, rfl, rfl, sqL (sH _ _ ela), (show atI (txs ls) ((0 : Nat) : Int) = some (.str z) from atI_nat (by unfold txs; rw [List.getElem?_map, el]; rfl)), by show 2 ≤ sizeLine; omega, fun p2 np2 => eq_same (hu.same (same_upd np2)) (.tup upd_same (.cons (.str _) (.cons (.str _) .nil))) lay.1 lay.2 ⟨true, rfl, iteT ?_⟩⟩
      have s2 := s1.trans (same_upd np2 (o := .tup [.str "name", .str z]))
      exact ⟨.ref bd, rfl, .ref p, rfl, bd, p, kvs, kvs, rfl, rfl, s2 _ _ (sp _ _ ebd), s2 _ _ upd_same, rfl, cs, q _ (sp.trans s2)⟩
theorem ok_lacking {k : Nat} (D : Pr P K mg) : FnOk P w K mg base (CX P w) (k + 46) D._law_lacking_right.f D._law_lacking_right.fd ["numbers", "formula", "names", "others"] spLacking := by
  have G__law_draw : FnOk P w K mg base CX0 (k + 1) D._law_draw.f D._law_draw.fd ["numbers", "many"] spDraw := ok_drawD D
  refine D._law_lacking_right.F.okX sc__law_lacking_right (fun vs H Q E h => ?_) (fun cdv A outer s H vs Q E hr h => ?_)
  · obtain ⟨a, v, na, oa, f, ys, os, rfl, _⟩ := h
    rfl
  · obtain ⟨a, v, na, oa, f, ys, os, rfl, b, nn, na_a, oa_a, q⟩ := h
    have es : sizeLine = 16777216 := sizeLine_eq
    obtain ⟨tT, hT, rT⟩ := la_tail (w := w) (base := base) D D._law_lacking_right.f cdv A outer s H Q E hr
    have nd := b.told.2.1
    have l1 := b.len
    have l2 := b.olen
    refine ⟨_, (pss_cons (ps_set (i := 4) sc__law_lacking_right.nd rfl (.inl rfl) pe_dnewK)
      (pss_cons (ps_for (by passes_own) rfl (pi_list (pv 3)) (pg_name (i := 5) sc__law_lacking_right.nd rfl (.inl rfl)) (pss_one (ps_dput (L2.hu_of hr) (pv 4) (pv 5) pe_int rfl)))
      (pss_cons (ps_set (i := 6) sc__law_lacking_right.nd rfl (.inl rfl) (pe_lst pa_nil))
      (pss_cons (ps_for (by passes_own) rfl (pi_list (pv 2)) (pg_name (i := 5) sc__law_lacking_right.nd rfl (.inl rfl)) (pss_one (ps_if (pt_cmpR op_eq (pe_call G__law_draw (hr.mono (by omega)) (by rfl) D._law_draw.g D._law_draw.F.kp D._law_draw.b .nil pass0 (pa_cons (pv 0) (pa_cons pe_int pa_nil))) pe_int (nomark _)) (pss_one (ps_expr (pe_bm PySem.F.plainAttrs_list PySem.F.slot_list_append PySem.F.type_list_append mt_append (pv 6) (pa_cons (pv 5) pa_nil)))) (pss_one (ps_dput (L2.hu_of hr) (pv 4) (pv 5) (pe_call G__law_draw (hr.mono (by omega)) (by rfl) D._law_draw.g D._law_draw.F.kp D._law_draw.b .nil pass0 (pa_cons (pv 0) (pa_cons pe_int pa_nil))) rfl)))))
      hT)))), ?_⟩
    refine fun bd nbd => ?_
    have sb := same_upd nbd (o := .dK [])
    have hold : ∀ {H' : Hp} {kvs : List (L2.Key × V)}, (∀ b o, b ≠ bd → H b = some o → H' b = some o) → ∀ b o, H b = some o → (upd H' bd (.dK kvs)) b = some o := fun h b o e => by
      have n : b ≠ bd := fun z => by rw [z, nbd] at e; cases e
      rw [upd_ne n]; exact h _ _ n e
    have onot : ∀ z ∈ os, ∀ y ∈ ys, y ≠ z := fun z mz y my e => (b.onm z mz).2 (e ▸ (b.told.2.2 y).mp my)
    refine ⟨.ref oa, rfl, oa, rfl, ⟨_, sqL (sb _ _ b.oa)⟩, forLs (fun i σ H' => (∃ c5 kvs, σ = [some (.ref a), some v, some (.ref na), some (.ref oa), some (.ref bd), c5, none, none] ∧ H' bd = some (.dK kvs) ∧ Csist kvs ∧ kvs.length ≤ i ∧ ∀ y ∈ ys, valV kvs (.inr y) = none) ∧ Same H H') (sb _ _ b.oa) ⟨⟨_, [], rfl, upd_same, fun p m => (by cases m), Nat.le_refl _, fun y _ => rfl⟩, sb⟩ (fun i σ H' ⟨_, s1⟩ => s1 _ _ b.oa) ?_ ?_⟩
    · rintro i x σ H2 hx ⟨⟨c5, kvs, rfl, ebd, cs, lk, hn⟩, s2⟩
      obtain ⟨z, ez, rfl⟩ := txs_get hx
      have mz := List.mem_of_getElem? ez
      have hi := (List.getElem?_eq_some_iff.mp ez).1
      refine ⟨.ref bd, rfl, .str z, rfl, bd, _, rfl, DPut.k (k := .inr z) ebd (by omega), ⟨_, _, rfl, upd_same, cs.put _ _, by have := len_put kvs (.inr z) (V.int 1); omega, fun y my => by rw [valV_put, if_neg (fun e => onot z mz y my (Sum.inr.inj e))]; exact hn y my⟩, hold fun b o _ e => s2 _ _ e⟩
    · rintro σ H2 ⟨⟨c5, kvs, rfl, ebd, cs, lk, hn⟩, s2⟩
      rw [txs_len] at lk
      refine ⟨by show 0 ≤ sizeLine; omega, fun la nla => ?_⟩
      have sl := same_upd nla (o := .lst [])
      have nHl : H la = none := none_of_same s2 nla
      have nlb : la ≠ bd := fun e => by rw [e, ebd] at nla; cases nla
      have nla_a : la ≠ a := fun e => by
        obtain ⟨l, e2, _⟩ := nn
        rw [e, e2] at nHl; cases nHl
      have nbd_a : bd ≠ a := fun e => by
        obtain ⟨l, e2, _⟩ := nn
        rw [e, e2] at nbd; cases nbd
      have nn2 := nn.same (s2.trans sl)
      refine ⟨.ref na, rfl, na, rfl, ⟨_, sqL (sl _ _ (s2 _ _ b.na))⟩, forLs (fun i σ H' => (∃ c5 kvs ls, σ = [some (.ref a), some v, some (.ref na), some (.ref oa), some (.ref bd), c5, some (.ref la), none] ∧ H' bd = some (.dK kvs) ∧ H' la = some (.lst (txs ls)) ∧ Csist kvs ∧ kvs.length ≤ 1000 + i ∧ ls.length ≤ i ∧ (∀ j y, i ≤ j → ys[j]? = some y → valV kvs (.inr y) = none) ∧
        ((ls = [] ∧ ∀ j y, j < i → ys[j]? = some y → HasB kvs y) ∨ ∃ (j0 : Nat) (z : Str), j0 < i ∧ ls[0]? = some z ∧ ys[j0]? = some z ∧ valV kvs (.inr z) = none ∧ ∀ j y, j < j0 → ys[j]? = some y → HasB kvs y)) ∧ SameB a H H' ∧ NumsAt H' a ∧ H' na = some (.lst (txs ys))) (sl _ _ (s2 _ _ b.na)) ?_ (fun i σ H' ⟨_, _, _, e⟩ => e) ?_ ?_⟩
      · exact ⟨⟨_, kvs, [], rfl, sl _ _ ebd, upd_same, cs, by omega, Nat.le_refl _, fun j y _ e => hn y (List.mem_of_getElem? e), .inl ⟨rfl, fun j y h => absurd h (by omega)⟩⟩, sameB_of (s2.trans sl), nn2, sl _ _ (s2 _ _ b.na)⟩
      · rintro i x σ H3 hx ⟨⟨c5, kvs, ls, rfl, ebd3, ela3, cs3, lk3, ll3, hn3, alt⟩, s3, n3, ena3⟩
        obtain ⟨z, ez, rfl⟩ := txs_get hx
        have hi := (List.getElem?_eq_some_iff.mp ez).1
        refine ⟨.ref a, rfl, a, 3, rfl, by decide, n3, fun H4 r hr4 s4 n4 => ⟨rfl, _, rfl, iteB ?_ ?_⟩⟩
        · have e4 := s4 _ _ nla_a ela3
          have stay : ∀ b o, b ≠ a → H b = some o → (upd H4 la (.lst (txs ls ++ [.str z]))) b = some o := fun b o n e => by
            rw [upd_ne (fun w => by rw [w, nHl] at e; cases e)]; exact s4 _ _ n (s3 _ _ n e)
          refine ⟨.ref la, rfl, .inl ⟨rfl, _, sqL e4⟩, .str z, rfl, la, _, .str z, rfl, rfl, e4, by rw [txs_len]; omega, ⟨_, kvs, ls ++ [z], rfl, by rw [upd_ne nlb.symm]; exact s4 _ _ nbd_a ebd3, by rw [upd_same]; unfold txs; rw [List.map_append]; rfl, cs3, by omega, by rw [List.length_append, List.length_singleton]; omega, fun j y hj e => hn3 j y (by omega) e, .inr ?_⟩, stay, ?_, stay _ _ na_a b.na⟩
          · rcases alt with ⟨rfl, h⟩ | ⟨j0, z0, g1, g2, g3, g4, g5⟩
            · exact ⟨i, z, by omega, rfl, ez, hn3 i z (Nat.le_refl _) ez, h⟩
            · exact ⟨j0, z0, by omega, by rw [List.getElem?_append_left (List.getElem?_eq_some_iff.mp g2).1]; exact g2, g3, g4, g5⟩
          · obtain ⟨l, e, h⟩ := n4
            exact ⟨l, by rw [upd_ne nla_a.symm]; exact e, h⟩
        · refine ⟨.ref a, rfl, a, 2, rfl, by decide, n4, fun H5 r5 hr5 s5 n5 => ⟨.ref bd, rfl, .str z, rfl, bd, _, rfl, DPut.k (k := .inr z) (s5 _ _ nbd_a (s4 _ _ nbd_a ebd3)) (by omega), ?_⟩⟩
          have stay : ∀ b o, b ≠ a → H b = some o → (upd H5 bd (.dK (putK kvs (.inr z) (.int (r5 : Nat))))) b = some o := fun b o n e => by
            rw [upd_ne (fun w => by rw [w, nbd] at e; cases e)]; exact s5 _ _ n (s4 _ _ n (s3 _ _ n e))
          have other : ∀ j y, j ≠ i → ys[j]? = some y → y ≠ z := fun j y hj e ee => by
            subst ee
            exact hj ((idx_get nd e).symm.trans (idx_get nd ez))
          refine ⟨⟨_, _, ls, rfl, upd_same, by rw [upd_ne nlb]; exact s5 _ _ nla_a (s4 _ _ nla_a ela3), cs3.put _ _, by have := len_put kvs (.inr z) (V.int (r5 : Nat)); omega, by omega, fun j y hj e => ?_, ?_⟩, stay, ?_, stay _ _ na_a b.na⟩
          · rw [valV_put, if_neg (fun w => other j y (by omega) e (Sum.inr.inj w))]
            exact hn3 j y (by omega) e
          · rcases alt with ⟨rfl, h⟩ | ⟨j0, z0, g1, g2, g3, g4, g5⟩
            · refine .inl ⟨rfl, fun j y hj e => ?_⟩
              rcases Nat.lt_or_ge j i with hj' | hj'
              · exact (h j y hj' e).put (other j y (by omega) e) _
              · obtain rfl : j = i := by omega
                rw [ez] at e; cases e
                refine ⟨decide (r5 = 1), ?_⟩
                rw [valV_put, if_pos rfl]
                obtain rfl | rfl : r5 = 0 ∨ r5 = 1 := by omega
                · rfl
                · rfl
            · exact .inr ⟨j0, z0, by omega, g2, g3, by rw [valV_put, if_neg (fun w => other j0 z0 (by omega) g3 (Sum.inr.inj w))]; exact g4, fun j y hj e => (g5 j y hj e).put (other j y (by omega) e) _⟩
          · obtain ⟨l, e, h⟩ := n5
            exact ⟨l, by rw [upd_ne nbd_a.symm]; exact e, h⟩
      · rintro σ H3 ⟨⟨c5, kvs, ls, rfl, ebd3, ela3, cs3, lk3, ll3, hn3, alt⟩, s3, n3, ena3⟩
        rw [txs_len] at alt
        refine rT v a na oa bd la f ys os ls kvs c5 H3 (b.keep na_a oa_a s3 (SameB.tups s3 nn)) ebd3 ela3 cs3 ?_ fun H1 s1 => q H1 (s3.trans (sameB_of s1)) (n3.same s1)
        rcases alt with ⟨rfl, h⟩ | ⟨j0, z0, g1, g2, g3, g4, g5⟩
        · refine .inl ⟨rfl, fun y my => ?_⟩
          obtain ⟨j, ej⟩ := List.mem_iff_getElem?.mp my
          exact h j y (List.getElem?_eq_some_iff.mp ej).1 ej
        · exact .inr ⟨j0, z0, g2, g3, g4, g5⟩
end
end K7

set_option Elab.async false
set_option linter.all false
set_option maxRecDepth 100000
set_option maxHeartbeats 4000000
namespace K7
open PySem PySem.Spec PyProof.Rows L2 GX NdefX
/-! ### _law_joint_right -/
theorem join_none {C : Addr} {w b : Bool} {H : Hp} {Q : VK} {E : XK} (q : ∀ u H1, Same H H1 → Dh H1 u (Fm.bit b).data → Q u H1) : spStar C w b [] H Q E :=
  ⟨Nat.zero_le _, .inr ⟨[], .nil, fun f m => (by cases m), by simp only [cntL]; omega, .inl ⟨rfl, q⟩⟩⟩
theorem join_one {C : Addr} {w b : Bool} {x : V} {f : Fm} {H : Hp} {Q : VK} {E : XK} (h : Dh H x f.data) (ok : f.ok = true) (hd : f.dep ≤ 40) (hc : f.cnt ≤ 2000) (q : ∀ H1, Same H H1 → Q x H1) : spStar C w b [x] H Q E :=
  ⟨by show 1 ≤ 5; omega, .inr ⟨[f], .cons h .nil, fun g m => by rw [List.mem_singleton.mp m]; exact ⟨ok, hd⟩, by simp only [cntL]; omega, .inr (.inl ⟨x, rfl, q⟩)⟩⟩
theorem join_many {C : Addr} {w b : Bool} {xs : List V} {fs : List Fm} {H : Hp} {Q : VK} {E : XK} (h : DhAll H xs (fs.map Fm.data)) (ok : ∀ f ∈ fs, f.ok = true) (hd : depL fs < 40) (hc : cntL fs ≤ 2000) (l2 : 2 ≤ fs.length) (l5 : fs.length ≤ 5) (q : ∀ u H1, Same H H1 → Dh H1 u (Fm.joint w fs).data → Q u H1) : spStar C w b xs H Q E :=
  ⟨by rw [dhAll_len h]; exact l5, .inr ⟨fs, h, fun f m => ⟨ok f m, by have := depL_le.mp (Nat.le_refl (depL fs)) f m; omega⟩, hc, .inr (.inr ⟨l2, fun _ => q, fun e => absurd e (by omega)⟩)⟩⟩
structure Parts (H : Hp) (pa : Addr) (u0 u1 u2 : V) (f0 f1 f2 : Fm) : Prop where
  pa : H pa = some (.lst [u0, u1, u2])
  h0 : Dh H u0 f0.data
  h1 : Dh H u1 f1.data
  h2 : Dh H u2 f2.data
  ok : f0.ok = true ∧ f1.ok = true ∧ f2.ok = true
  dep : f0.dep ≤ 10 ∧ f1.dep ≤ 10 ∧ f2.dep ≤ 10
  cnt : f0.cnt ≤ 20 ∧ f1.cnt ≤ 20 ∧ f2.cnt ≤ 20
theorem Parts.same {H H' : Hp} {pa : Addr} {u0 u1 u2 : V} {f0 f1 f2 : Fm} (h : Parts H pa u0 u1 u2 f0 f1 f2) (s : Same H H') : Parts H' pa u0 u1 u2 f0 f1 f2 := ⟨s _ _ h.pa, h.h0.same s, h.h1.same s, h.h2.same s, h.ok, h.dep, h.cnt⟩
def spJoint : Sp := fun vs H Q _ => ∃ (pa : Addr) (u0 u1 u2 : V) (f0 f1 f2 : Fm), vs = [.ref pa] ∧ Parts H pa u0 u1 u2 f0 f1 f2 ∧ ∀ H1, Same H H1 → Q (.bl true) H1
theorem deps {fs : List Fm} {n : Nat} (h : ∀ f ∈ fs, f.dep ≤ n) : depL fs ≤ n := depL_le.mpr h
section
variable {P : Program} {w : World} {K : PySem.W.Frag} {mg : Str → Option Value} {base : Heap}
theorem ok_joint {k : Nat} (D : Pr P K mg) : FnOk P w K mg base (CX P w) (k + 8) D._law_joint_right.f D._law_joint_right.fd ["parts"] spJoint := by
  have G_all_of : FnR P w K mg base (CX P w) (k + 7) D.all_of.f (spStar D.BadFormula.C false true) := ok_allof D
  have G_any_of : FnR P w K mg base (CX P w) (k + 7) D.any_of.f (spStar D.BadFormula.C true false) := ok_anyof D
  refine D._law_joint_right.F.okX sc__law_joint_right (fun vs H Q E h => ?_) (fun cdv A outer s H vs Q E hr h => ?_)
  · obtain ⟨pa, u0, u1, u2, f0, f1, f2, rfl, _⟩ := h
    rfl
  · obtain ⟨pa, u0, u1, u2, f0, f1, f2, rfl, p, q⟩ := h
    have two : (2 : Nat) ≤ sizeLine := by decide
    obtain ⟨o0, o1, o2⟩ := p.ok
    obtain ⟨d0, d1, d2⟩ := p.dep
    obtain ⟨c0, c1, c2⟩ := p.cnt
    have layB : ∀ b, (Fm.bit b).data.canLay0 = true := fun b => lay_data (.bit b) rfl
    have depB : ∀ b, (Fm.bit b).data.depth ≤ 150 := fun b => by have := depth_data (.bit b); simp only [Fm.dep] at this; omega
    have bitD : ∀ (H1 : Hp) (b : Bool) (p : Addr), H1 p = some (.tup [.str "bit", .int (if b then 1 else 0)]) → Dh H1 (.ref p) (Fm.bit b).data := fun H1 b p e => .tup e (.cons (.str _) (.cons (.int _) .nil))
    refine ⟨_, (pss_cons (ps_if (PW.pt (pw_or (pt_cmpR (RG.op_neDD hr) (pe_callR0 G_all_of (hr.mono (by omega)) (by rfl) D.all_of.g D.all_of.F.kp (passes_call (takes_of rfl rfl rfl rfl) (fun _ _ _ _ h => h))) (pe_tup (pa_cons pe_str (pa_cons pe_int pa_nil))) (nomark _)) (pw_or1 (pt_cmpR (RG.op_neDD hr) (pe_callR0 G_any_of (hr.mono (by omega)) (by rfl) D.any_of.g D.any_of.F.kp (passes_call (takes_of rfl rfl rfl rfl) (fun _ _ _ _ h => h))) (pe_tup (pa_cons pe_str (pa_cons pe_int pa_nil))) (nomark _))))) (pss_one (ps_ret pe_bl)) pss_nil)
      (pss_cons (ps_for (by passes_own) rfl (pi_list (pv 0)) (pg_name (i := 1) sc__law_joint_right.nd rfl (.inl rfl)) (pss_one (ps_if (PW.pt (pw_or (pt_cmpR (RG.op_neDD hr) (pe_callR G_all_of (hr.mono (by omega)) (by rfl) D.all_of.g D.all_of.F.kp (passes_call (takes_of rfl rfl rfl rfl) (fun _ _ _ _ h => h)) (pa_cons (pv 1) pa_nil)) (pv 1) (nomark _)) (pw_or1 (pt_cmpR (RG.op_neDD hr) (pe_callR G_any_of (hr.mono (by omega)) (by rfl) D.any_of.g D.any_of.F.kp (passes_call (takes_of rfl rfl rfl rfl) (fun _ _ _ _ h => h)) (pa_cons (pv 1) pa_nil)) (pv 1) (nomark _))))) (pss_one (ps_ret pe_bl)) pss_nil)))
      (pss_cons (ps_if (pt_cmpR (RG.op_neDD hr) (pe_callR G_all_of (hr.mono (by omega)) (by rfl) D.all_of.g D.all_of.F.kp (passes_call (takes_of rfl rfl rfl rfl) (fun _ _ _ _ h => h)) (pa_cons (pe_ix (r := rIxL K) ix_list (pv 0) pe_int (fun _ _ => rfl)) (pa_cons (pe_ix (r := rIxL K) ix_list (pv 0) pe_int (fun _ _ => rfl)) pa_nil))) (pe_tup (pa_cons pe_str (pa_cons (pe_tup (pa_cons (pe_ix (r := rIxL K) ix_list (pv 0) pe_int (fun _ _ => rfl)) (pa_cons (pe_ix (r := rIxL K) ix_list (pv 0) pe_int (fun _ _ => rfl)) pa_nil))) pa_nil))) (nomark _)) (pss_one (ps_ret pe_bl)) pss_nil)
      (pss_cons (ps_if (pt_cmpR (RG.op_neDD hr) (pe_callR G_any_of (hr.mono (by omega)) (by rfl) D.any_of.g D.any_of.F.kp (passes_call (takes_of rfl rfl rfl rfl) (fun _ _ _ _ h => h)) (pa_cons (pe_ix (r := rIxL K) ix_list (pv 0) pe_int (fun _ _ => rfl)) (pa_cons (pe_ix (r := rIxL K) ix_list (pv 0) pe_int (fun _ _ => rfl)) pa_nil))) (pe_tup (pa_cons pe_str (pa_cons (pe_tup (pa_cons (pe_ix (r := rIxL K) ix_list (pv 0) pe_int (fun _ _ => rfl)) (pa_cons (pe_ix (r := rIxL K) ix_list (pv 0) pe_int (fun _ _ => rfl)) pa_nil))) pa_nil))) (nomark _)) (pss_one (ps_ret pe_bl)) pss_nil)
      (pss_cons (ps_set (i := 2) sc__law_joint_right.nd rfl (.inl rfl) (pe_tup (pa_cons (pe_ix (r := rIxL K) ix_list (pv 0) pe_int (fun _ _ => rfl)) (pa_cons (pe_ix (r := rIxL K) ix_list (pv 0) pe_int (fun _ _ => rfl)) (pa_cons (pe_ix (r := rIxL K) ix_list (pv 0) pe_int (fun _ _ => rfl)) (pa_cons (pe_ix (r := rIxL K) ix_list (pv 0) pe_int (fun _ _ => rfl)) (pa_cons (pe_ix (r := rIxL K) ix_list (pv 0) pe_int (fun _ _ => rfl)) pa_nil)))))))
      (pss_cons (ps_if (pt_cmpR (RG.op_neDD hr) (pe_callR G_all_of (hr.mono (by omega)) (by rfl) D.all_of.g D.all_of.F.kp (passes_call (takes_of rfl rfl rfl rfl) (fun _ _ _ _ h => h)) (pa_cons (pe_ix (r := rIxL K) ix_list (pv 0) pe_int (fun _ _ => rfl)) (pa_cons (pe_ix (r := rIxL K) ix_list (pv 0) pe_int (fun _ _ => rfl)) (pa_cons (pe_ix (r := rIxL K) ix_list (pv 0) pe_int (fun _ _ => rfl)) (pa_cons (pe_ix (r := rIxL K) ix_list (pv 0) pe_int (fun _ _ => rfl)) (pa_cons (pe_ix (r := rIxL K) ix_list (pv 0) pe_int (fun _ _ => rfl)) pa_nil)))))) (pe_tup (pa_cons pe_str (pa_cons (pv 2) pa_nil))) (nomark _)) (pss_one (ps_ret pe_bl)) pss_nil)
      (pss_one (ps_ret (pe_cmpR (RG.op_eqDD hr) (pe_callR G_any_of (hr.mono (by omega)) (by rfl) D.any_of.g D.any_of.F.kp (passes_call (takes_of rfl rfl rfl rfl) (fun _ _ _ _ h => h)) (pa_cons (pe_ix (r := rIxL K) ix_list (pv 0) pe_int (fun _ _ => rfl)) (pa_cons (pe_ix (r := rIxL K) ix_list (pv 0) pe_int (fun _ _ => rfl)) (pa_cons (pe_ix (r := rIxL K) ix_list (pv 0) pe_int (fun _ _ => rfl)) (pa_cons (pe_ix (r := rIxL K) ix_list (pv 0) pe_int (fun _ _ => rfl)) (pa_cons (pe_ix (r := rIxL K) ix_list (pv 0) pe_int (fun _ _ => rfl)) pa_nil)))))) (pe_tup (pa_cons pe_str (pa_cons (pv 2) pa_nil))) (nomark _)))))))))), ?_⟩
    try delta tNil
    refine join_none fun a1 H1 s1 h1 => ⟨two, fun p1 np1 => ne_same (h1.same (same_upd np1)) (bitD _ true _ upd_same) (layB _) (depB _) ⟨false, rfl, iteF ?_⟩⟩
    have t1 := s1.trans (same_upd np1 (o := .tup [.str "bit", .int 1]))
    generalize upd H1 p1 (.tup [.str "bit", .int 1]) = G1 at t1
    try delta tNil
    refine join_none fun a2 H2 s2 h2 => ⟨two, fun p2 np2 => ne_same (h2.same (same_upd np2)) (bitD _ false _ upd_same) (layB _) (depB _) ⟨false, rfl, iteF ?_⟩⟩
    have t2 := t1.trans (s2.trans (same_upd np2 (o := .tup [.str "bit", .int 0])))
    generalize upd H2 p2 (.tup [.str "bit", .int 0]) = G2 at t2
    have pp2 := p.same t2
    refine ⟨.ref pa, rfl, pa, rfl, ⟨_, sqL pp2.pa⟩, forLs (fun i σ H' => (∃ e1, σ = [some (.ref pa), e1, none]) ∧ Same G2 H') pp2.pa ⟨⟨_, rfl⟩, Same.refl _⟩ (fun i σ H' ⟨_, s⟩ => s _ _ pp2.pa) ?_ ?_⟩
    · rintro i x σ H3 hx ⟨⟨e1, rfl⟩, s3⟩
      obtain ⟨f, hf, ok, hd, hc⟩ : ∃ f : Fm, Dh H3 x f.data ∧ f.ok = true ∧ f.dep ≤ 10 ∧ f.cnt ≤ 20 := by
        have p3 := pp2.same s3
        match i, hx with
        | 0, hx => cases hx; exact ⟨f0, p3.h0, o0, d0, c0⟩
        | 1, hx => cases hx; exact ⟨f1, p3.h1, o1, d1, c1⟩
        | 2, hx => cases hx; exact ⟨f2, p3.h2, o2, d2, c2⟩
      have lf := lay_data f ok
      have df := depth_data f
      refine ⟨x, rfl, ?_⟩
      try delta tNil
      refine join_one hf ok (by omega) (by omega) fun H4 s4 => ⟨x, rfl, ne_same (hf.same s4) (hf.same s4) lf (by omega) ⟨false, rfl, iteF ?_⟩⟩
      refine ⟨x, rfl, ?_⟩
      try delta tNil
      refine join_one (hf.same s4) ok (by omega) (by omega) fun H5 s5 => ⟨x, rfl, ne_same (hf.same (s4.trans s5)) (hf.same (s4.trans s5)) lf (by omega) ⟨false, rfl, iteF ⟨⟨_, rfl⟩, s3.trans (s4.trans s5)⟩⟩⟩
    · rintro σ H3 ⟨⟨e1, rfl⟩, s3⟩
      have p3 := pp2.same s3
      have t3 := t2.trans s3
      clear pp2
      have okj : ∀ (w : Bool) (fs : List Fm), (∀ f ∈ fs, f.ok = true) → 2 ≤ fs.length → (Fm.joint w fs).ok = true := fun w fs h l => by
        simp only [Fm.ok, Bool.and_eq_true, decide_eq_true_eq]; exact ⟨l, okL_all.mpr h⟩
      have lay : ∀ (w : Bool) (fs : List Fm), (∀ f ∈ fs, f.ok = true) → 2 ≤ fs.length → (∀ f ∈ fs, f.dep ≤ 10) → (Fm.joint w fs).data.canLay0 = true ∧ (Fm.joint w fs).data.depth ≤ 150 := fun w fs h l hd => by
        refine ⟨lay_data _ (okj w fs h l), ?_⟩
        have := depth_data (Fm.joint w fs)
        have := deps hd
        simp only [Fm.dep] at *
        omega
      have a01 : ∀ f ∈ [f0, f1], f.ok = true := by simp [o0, o1]
      have a10 : ∀ f ∈ [f1, f0], f.ok = true := by simp [o0, o1]
      have a5 : ∀ f ∈ [f0, f1, f2, f0, f1], f.ok = true := by simp [o0, o1, o2]
      have e01 : ∀ f ∈ [f0, f1], f.dep ≤ 10 := by simp [d0, d1]
      have e10 : ∀ f ∈ [f1, f0], f.dep ≤ 10 := by simp [d0, d1]
      have e5 : ∀ f ∈ [f0, f1, f2, f0, f1], f.dep ≤ 10 := by simp [d0, d1, d2]
      refine ⟨.ref pa, rfl, pa, _, 0, u0, rfl, rfl, sqL p3.pa, rfl, .ref pa, rfl, pa, _, 1, u1, rfl, rfl, sqL p3.pa, rfl, ?_⟩
      try delta tNil
      refine join_many (fs := [f0, f1]) (.cons p3.h0 (.cons p3.h1 .nil)) a01 (by have := deps e01; omega) (by simp only [cntL]; omega) (by simp) (by simp) fun u H4 s4 hu => ?_
      have p4 := p3.same s4
      refine ⟨.ref pa, rfl, pa, _, 0, u0, rfl, rfl, sqL p4.pa, rfl, .ref pa, rfl, pa, _, 1, u1, rfl, rfl, sqL p4.pa, rfl, two, fun q1 n1 => ⟨two, fun q2 n2 => ne_same (hu.same ((same_upd n1).trans (same_upd n2))) (dh_joint (w := false) upd_same ((same_upd n2) _ _ upd_same) (.cons (p4.h0.same ((same_upd n1).trans (same_upd n2))) (.cons (p4.h1.same ((same_upd n1).trans (same_upd n2))) .nil))) (lay false _ a01 (by simp) e01).1 (lay false _ a01 (by simp) e01).2 ⟨false, rfl, iteF ?_⟩⟩⟩
      have s5 := s4.trans ((same_upd n1 (o := .tup [u0, u1])).trans (same_upd n2 (o := .tup [.str "and", .ref q1])))
      generalize upd (upd H4 q1 (.tup [u0, u1])) q2 (.tup [.str "and", .ref q1]) = G5 at s5
      have p5 := p3.same s5
      refine ⟨.ref pa, rfl, pa, _, 1, u1, rfl, rfl, sqL p5.pa, rfl, .ref pa, rfl, pa, _, 0, u0, rfl, rfl, sqL p5.pa, rfl, ?_⟩
      try delta tNil
      refine join_many (fs := [f1, f0]) (.cons p5.h1 (.cons p5.h0 .nil)) a10 (by have := deps e10; omega) (by simp only [cntL]; omega) (by simp) (by simp) fun u6 H6 s6 hu6 => ?_
      have p6 := p5.same s6
      refine ⟨.ref pa, rfl, pa, _, 1, u1, rfl, rfl, sqL p6.pa, rfl, .ref pa, rfl, pa, _, 0, u0, rfl, rfl, sqL p6.pa, rfl, two, fun q1 n1 => ⟨two, fun q2 n2 => ne_same (hu6.same ((same_upd n1).trans (same_upd n2))) (dh_joint (w := true) upd_same ((same_upd n2) _ _ upd_same) (.cons (p6.h1.same ((same_upd n1).trans (same_upd n2))) (.cons (p6.h0.same ((same_upd n1).trans (same_upd n2))) .nil))) (lay true _ a10 (by simp) e10).1 (lay true _ a10 (by simp) e10).2 ⟨false, rfl, iteF ?_⟩⟩⟩
      have s7 := s5.trans (s6.trans ((same_upd n1 (o := .tup [u1, u0])).trans (same_upd n2 (o := .tup [.str "or", .ref q1]))))
      generalize upd (upd H6 q1 (.tup [u1, u0])) q2 (.tup [.str "or", .ref q1]) = G7 at s7
      have p7 := p3.same s7
      have r : ∀ {σ : L2.St} {H : Hp} {Q : VK} {i : Nat} {v : V}, σ[0]? = some (some (.ref pa)) → H pa = some (.lst [u0, u1, u2]) → ([u0, u1, u2] : List V)[i]? = some v → Q v H → tOp (rIxL K) (tVar 0) (tC (.int (i : Nat))) σ H Q := fun h1 h2 h3 h4 => ⟨.ref pa, h1, pa, _, _, _, rfl, rfl, sqL h2, atI_nat h3, h4⟩
      refine ⟨.ref pa, rfl, pa, _, 0, u0, rfl, rfl, sqL p7.pa, rfl, .ref pa, rfl, pa, _, 1, u1, rfl, rfl, sqL p7.pa, rfl, .ref pa, rfl, pa, _, 2, u2, rfl, rfl, sqL p7.pa, rfl, .ref pa, rfl, pa, _, 0, u0, rfl, rfl, sqL p7.pa, rfl, .ref pa, rfl, pa, _, 1, u1, rfl, rfl, sqL p7.pa, rfl, by show 5 ≤ sizeLine; decide, fun fv nfv => ?_⟩
      have sf := same_upd nfv (o := .tup [u0, u1, u2, u0, u1])
      have ef : upd G7 fv (.tup [u0, u1, u2, u0, u1]) fv = some (.tup [u0, u1, u2, u0, u1]) := upd_same
      generalize upd G7 fv (.tup [u0, u1, u2, u0, u1]) = G8 at sf ef
      have p8 := p7.same sf
      refine ⟨.ref pa, rfl, pa, _, 0, u0, rfl, rfl, sqL p8.pa, rfl, .ref pa, rfl, pa, _, 1, u1, rfl, rfl, sqL p8.pa, rfl, .ref pa, rfl, pa, _, 2, u2, rfl, rfl, sqL p8.pa, rfl, .ref pa, rfl, pa, _, 0, u0, rfl, rfl, sqL p8.pa, rfl, .ref pa, rfl, pa, _, 1, u1, rfl, rfl, sqL p8.pa, rfl, ?_⟩
      try delta tNil
      refine join_many (fs := [f0, f1, f2, f0, f1]) (.cons p8.h0 (.cons p8.h1 (.cons p8.h2 (.cons p8.h0 (.cons p8.h1 .nil))))) a5 (by have := deps e5; omega) (by simp only [cntL]; omega) (by simp) (by simp) fun u9 H9 s9 hu9 => ?_
      have p9 := p8.same s9
      refine ⟨.ref fv, rfl, two, fun q2 n2 => ne_same (hu9.same (same_upd n2)) (dh_joint (w := false) upd_same ((same_upd n2) _ _ (s9 _ _ ef)) (.cons (p9.h0.same (same_upd n2)) (.cons (p9.h1.same (same_upd n2)) (.cons (p9.h2.same (same_upd n2)) (.cons (p9.h0.same (same_upd n2)) (.cons (p9.h1.same (same_upd n2)) .nil)))))) (lay false _ a5 (by simp) e5).1 (lay false _ a5 (by simp) e5).2 ⟨false, rfl, iteF ?_⟩⟩
      have s10 := s9.trans (same_upd n2 (o := .tup [.str "and", .ref fv]))
      generalize upd H9 q2 (.tup [.str "and", .ref fv]) = G10 at s10
      have p10 := p8.same s10
      refine ⟨.ref pa, rfl, pa, _, 0, u0, rfl, rfl, sqL p10.pa, rfl, .ref pa, rfl, pa, _, 1, u1, rfl, rfl, sqL p10.pa, rfl, .ref pa, rfl, pa, _, 2, u2, rfl, rfl, sqL p10.pa, rfl, .ref pa, rfl, pa, _, 0, u0, rfl, rfl, sqL p10.pa, rfl, .ref pa, rfl, pa, _, 1, u1, rfl, rfl, sqL p10.pa, rfl, ?_⟩
      try delta tNil
      refine join_many (fs := [f0, f1, f2, f0, f1]) (.cons p10.h0 (.cons p10.h1 (.cons p10.h2 (.cons p10.h0 (.cons p10.h1 .nil))))) a5 (by have := deps e5; omega) (by simp only [cntL]; omega) (by simp) (by simp) fun u11 H11 s11 hu11 => ?_
      have p11 := p10.same s11
      have s12 := s10.trans s11
      refine ⟨.ref fv, rfl, two, fun q2 n2 => eq_same (hu11.same (same_upd n2)) (dh_joint (w := true) upd_same ((same_upd n2) _ _ (s12 _ _ ef)) (.cons (p11.h0.same (same_upd n2)) (.cons (p11.h1.same (same_upd n2)) (.cons (p11.h2.same (same_upd n2)) (.cons (p11.h0.same (same_upd n2)) (.cons (p11.h1.same (same_upd n2)) .nil)))))) (lay true _ a5 (by simp) e5).1 (lay true _ a5 (by simp) e5).2 ?_⟩
      exact q _ (t3.trans (s7.trans (sf.trans (s12.trans (same_upd n2)))))
end
end K7

set_option Elab.async false
set_option linter.all false
set_option maxRecDepth 100000
set_option maxHeartbeats 4000000
namespace K7
open PySem PySem.Spec PyProof.Rows L2 GX NdefX
/-! ### _law_refused_right -/
/-! ### data, told as wholes -/
def GivesD (σ : L2.St) (H0 : Hp) (te : TE) (d : PyData) : Prop := ∀ (H : Hp) (Q : VK), Same H0 H → (∀ v H', Same H H' → Dh H' v d → Q v H') → te σ H Q
def GivesDs (σ : L2.St) (H0 : Hp) (ta : TA) (ds : List PyData) : Prop := ∀ (H : Hp) (Q : List V → Hp → Prop), Same H0 H → (∀ vs H', Same H H' → DhAll H' vs ds → Q vs H') → ta σ H Q
section
variable {σ : L2.St} {H0 : Hp}
theorem gd_non : GivesD σ H0 (tC .non) .none := fun H Q _ h => h _ _ (Same.refl _) .non
theorem gd_bl {b : Bool} : GivesD σ H0 (tC (.bl b)) (.bool b) := fun H Q _ h => h _ _ (Same.refl _) (.bl b)
theorem gd_int {i : Int} : GivesD σ H0 (tC (.int i)) (.int i) := fun H Q _ h => h _ _ (Same.refl _) (.int i)
theorem gd_str {x : Str} : GivesD σ H0 (tC (.str x)) (.str x) := fun H Q _ h => h _ _ (Same.refl _) (.str x)
theorem gd_var {i : Nat} {v : V} {d : PyData} (e : σ[i]? = some (some v)) (hd : Dh H0 v d) : GivesD σ H0 (tVar i) d := fun H Q s h => ⟨v, e, h _ _ (Same.refl _) (hd.same s)⟩
theorem gds_nil : GivesDs σ H0 tNil [] := fun H Q _ h => h _ _ (Same.refl _) .nil
theorem gds_cons {te : TE} {ta : TA} {d : PyData} {ds : List PyData} (h1 : GivesD σ H0 te d) (h2 : GivesDs σ H0 ta ds) : GivesDs σ H0 (tCons te ta) (d :: ds) := fun H Q s h =>
  h1 H _ s fun v H1 s1 hv => h2 H1 _ (s.trans s1) fun vs H2 s2 hvs => h _ _ (s1.trans s2) (.cons (hv.same s2) hvs)
theorem gd_tup {ta : TA} {ds : List PyData} (h1 : GivesDs σ H0 ta ds) (hl : ds.length ≤ 1000) : GivesD σ H0 (tTup ta) (.tuple ds) := fun H Q s h =>
  h1 H _ s fun vs H1 s1 hvs => ⟨by rw [hvs.length, sizeLine_eq]; omega, fun p np => h _ _ (s1.trans (same_upd np)) (.tup upd_same (DhAll.same (same_upd np) _ _ hvs))⟩
theorem gd_lst {ta : TA} {ds : List PyData} (h1 : GivesDs σ H0 ta ds) (hl : ds.length ≤ 1000) : GivesD σ H0 (tLst ta) (.list ds) := fun H Q s h =>
  h1 H _ s fun vs H1 s1 hvs => ⟨by rw [hvs.length, sizeLine_eq]; omega, fun p np => h _ _ (s1.trans (same_upd np)) (.lst upd_same (DhAll.same (same_upd np) _ _ hvs))⟩
theorem gd_dot {i : Nat} {z : Str} (e : σ[i]? = some (some (.str z))) (hz : z.length ≤ 1000) : GivesD σ H0 (tOp (fun x y H Q => ∃ i j, x = V.str i ∧ y = V.str j ∧ i.length + j.length ≤ sizeLine ∧ Q (V.str (i ++ j)) H) (tVar i) (tC (.str (Str.ofString ".")))) (.str (z ++ Str.ofString ".")) := fun H Q s h =>
  ⟨_, e, _, _, rfl, rfl, by rw [show (Str.ofString ".").length = 1 by decide, sizeLine_eq]; omega, h _ _ (Same.refl _) (.str _)⟩
theorem gives_dlist {ta : TA} {ds : List PyData} {Q : VK} (h : GivesDs σ H0 ta ds) (hl : ds.length ≤ 1000) (q : ∀ L vs H', Same H0 H' → H' L = some (.lst vs) → DhAll H' vs ds → Q (.ref L) H') : tLst ta σ H0 Q :=
  h H0 _ (Same.refl _) fun vs H1 s1 hvs => ⟨by rw [hvs.length, sizeLine_eq]; omega, fun L nL => q L vs _ (s1.trans (same_upd nL)) upd_same (DhAll.same (same_upd nL) _ _ hvs)⟩
theorem gives_for {F : PySem.W.Frag} {g : TG} {tb u : TS} {D : Ends} {ta : TA} {ds : List PyData} (h : GivesDs σ H0 ta ds) (hl : ds.length ≤ 1000) (q : ∀ L vs H', Same H0 H' → H' L = some (.lst vs) → DhAll H' vs ds → tSeq (tFor (iList F (fun _ H Q => Q (.ref L) H)) g tb) u D σ H') : tSeq (tFor (iList F (tLst ta)) g tb) u D σ H0 := by
  delta tSeq tFor iList
  exact gives_dlist h hl q
end
def isF (dW : PyData) : Prop := dW = .str "formula"
theorem rai_we {Cf Cn Cm : Addr} {H : Hp} : RaiN (WE Cf Cn Cm H (.str "formula")) Cf H := fun H' s => ⟨s, .inl ⟨rfl, rfl, rfl⟩⟩
theorem word_q {H : Hp} {x : Str} {Q : VK} (q : ∀ H1, Same H H1 → Q (.str x) H1) : ∀ u H1, Same H H1 → Dh H1 u (.str x) → Q u H1 := fun u H1 s h => by
  cases h
  exact q H1 s
/-- a formula with edges, or none at all -/
theorem word_ref {Cf Cn Cm : Addr} {t : Nat} {v v2 : V} {d : PyData} {H : Hp} {Q : VK} {E : XK} (ht : t ≤ 2) (a : Arg H v d) (h : formL 40 [d] = true → ∃ f : Fm, d = f.data ∧ f.ok = true ∧ f.cnt ≤ 1900 ∧ f.dep ≤ 40 ∧ f.eds ≠ []) (q : ∀ H1, Same H H1 → Q (.str "formula") H1) :
    spWord Cf Cn Cm [.int (t : Nat), v, v2] H Q E := by
  refine ⟨t, v, v2, .str "formula", rfl, fun _ => ⟨v, d, rfl, a, fun _ => rai_we, fun e => ?_⟩, fun _ => ⟨v, v2, d, rfl, a, fun _ => rai_we, fun e => ?_⟩, fun _ => ⟨v, v2, d, rfl, a, fun _ => rai_we, fun e => ?_⟩, fun e => absurd e (by omega), fun e => absurd e (by omega), fun e => absurd e (by omega), word_q q⟩
  · obtain ⟨f, e1, e2, e3, e4, e5⟩ := h e
    exact ⟨f, e1, e3, e4, e2, fun _ => rai_we, fun e => absurd e e5⟩
  · obtain ⟨f, e1, e2, e3, e4, e5⟩ := h e
    exact ⟨f, e1, by omega, e4, fun _ => rai_we, fun e => absurd e e5⟩
  · obtain ⟨f, e1, e2, e3, e4, e5⟩ := h e
    exact ⟨f, e1, by omega, e4, fun _ => rai_we, fun e => absurd e e5⟩
/-- one of the joined is none -/
theorem word_join {Cf Cn Cm : Addr} {t : Nat} {v v2 : V} {d d2 : PyData} {H : Hp} {Q : VK} {E : XK} (ht : 3 ≤ t) (a : Arg H v d) (a2 : t ≠ 3 → Arg H v2 d2) (h : formL 40 [d] = false ∨ (t ≠ 3 ∧ formL 40 [d2] = false)) (q : ∀ H1, Same H H1 → Q (.str "formula") H1) :
    spWord Cf Cn Cm [.int (t : Nat), v, v2] H Q E := by
  refine ⟨t, v, v2, .str "formula", rfl, fun e => absurd e (by omega), fun e => absurd e (by omega), fun e => absurd e (by omega), fun e => ⟨by show 1 ≤ 5; omega, .inl ⟨[d], .cons a.dh .nil, ?_, ⟨d, by simp, ?_⟩, rai_we⟩⟩, fun e => ⟨by show 2 ≤ 5; omega, .inl ⟨[d2, d], .cons (a2 (by omega)).dh (.cons a.dh .nil), ?_, ?_, rai_we⟩⟩, fun e => ⟨by show 3 ≤ 5; omega, .inl ⟨[d, d2, d], .cons a.dh (.cons (a2 (by omega)).dh (.cons a.dh .nil)), ?_, ?_, rai_we⟩⟩, word_q q⟩
  · intro x m; rw [List.mem_singleton.mp m]; exact ⟨a.dom, a.wt, a.st⟩
  · exact h.elim id fun h => absurd e h.1
  · have a2 := a2 (by omega)
    intro x m
    simp only [List.mem_cons, List.not_mem_nil, or_false] at m
    rcases m with rfl | rfl
    · exact ⟨a2.dom, a2.wt, a2.st⟩
    · exact ⟨a.dom, a.wt, a.st⟩
  · rcases h with h | h
    · exact ⟨d, by simp, h⟩
    · exact ⟨d2, by simp, h.2⟩
  · have a2 := a2 (by omega)
    intro x m
    simp only [List.mem_cons, List.not_mem_nil, or_false] at m
    rcases m with rfl | rfl | rfl
    · exact ⟨a.dom, a.wt, a.st⟩
    · exact ⟨a2.dom, a2.wt, a2.st⟩
    · exact ⟨a.dom, a.wt, a.st⟩
  · rcases h with h | h
    · exact ⟨d, by simp, h⟩
    · exact ⟨d2, by simp, h.2⟩
structure RefIn (H : Hp) (v : V) (x name other : Str) : Prop where
  dh : Dh H v (Fm.name x).data
  nx : nameB x = true
  nn : nameB name = true
  no : nameB other = true
  ne : name ≠ other
theorem RefIn.same {H H' : Hp} {v : V} {x name other : Str} (h : RefIn H v x name other) (s : Same H H') : RefIn H' v x name other := ⟨h.dh.same s, h.nx, h.nn, h.no, h.ne⟩
theorem RefIn.arg {H : Hp} {v : V} {x name other : Str} (h : RefIn H v x name other) : Arg H v (Fm.name x).data := arg_data h.dh h.nx (by simp [Fm.cnt])
theorem dot_bad {z : Str} : nameB (z ++ Str.ofString ".") = false := by
  unfold nameB
  have : (z ++ Str.ofString ".").cps.toList.getLast? = some 46 := by
    rw [appL, List.getLast?_append]; rfl
  rw [this]
  simp
theorem strOk_dot {z : Str} (h : nameB z = true) : PyData.strOk (z ++ Str.ofString ".") = true := by
  unfold PyData.strOk
  rw [← Array.all_toList, List.all_eq_true]
  intro c m
  have m : c ∈ (z ++ Str.ofString ".").cps.toList := m
  rw [appL] at m
  rcases List.mem_append.mp m with m | m
  · exact decide_eq_true (by have := name_small h c m; omega)
  · have : c = 46 := by simpa using (show c ∈ [46] from m)
    subst this; decide
theorem told_lay {d : PyData} (h : d.canLay0 = true) (hd : d.depth ≤ 100) : (PyData.tuple [.str "name", d]).canLay0 = true ∧ (PyData.tuple [.str "name", d]).depth ≤ 150 := by
  have e : (PyData.str "name").canLay0 = true := by decide +kernel
  have e2 : (PyData.str "name").depth = 0 := by decide +kernel
  simp only [PyData.canLay0, PyData.canLayAll0, PyData.depth, PyData.depthAll, h] at *
  refine ⟨by simp [e], by omega⟩
/-- what is no name -/
def Wrong (w : V) (dw : PyData) : Prop := (∀ H : Hp, Dh H w dw) ∧ nameD dw = false ∧ strD dw = true ∧ dw.canLay0 = true ∧ dw.depth ≤ 100
theorem wrongs {other : Str} (h : nameB other = true) {w : V} (m : w ∈ ([.str "A", .str "", .str (other ++ Str.ofString "."), .str "rise", .int 5, .non] : List V)) : ∃ dw, Wrong w dw := by
  simp only [List.mem_cons, List.not_mem_nil, or_false] at m
  rcases m with rfl | rfl | rfl | rfl | rfl | rfl
  · exact ⟨.str "A", fun _ => .str _, by decide +kernel, by decide +kernel, by decide +kernel, by decide +kernel⟩
  · exact ⟨.str "", fun _ => .str _, by decide +kernel, by decide +kernel, by decide +kernel, by decide +kernel⟩
  · refine ⟨.str (other ++ Str.ofString "."), fun _ => .str _, dot_bad, ?_, ?_, by simp only [PyData.depth]; omega⟩
    · have l : other.length ≤ 40 := (nameS_of h).2
      have : (other ++ Str.ofString ".").length ≤ 41 := by rw [lenApp, show (Str.ofString ".").length = 1 by decide]; omega
      exact decide_eq_true (by have : (other ++ Str.ofString ".").cps.size ≤ 41 := this; omega)
    · simp only [PyData.canLay0]; exact strOk_dot h
  · exact ⟨.str "rise", fun _ => .str _, by decide +kernel, by decide +kernel, by decide +kernel, by decide +kernel⟩
  · exact ⟨.int 5, fun _ => .int _, by decide +kernel, by decide +kernel, by decide +kernel, by decide +kernel⟩
  · exact ⟨.none, fun _ => .non, by decide +kernel, by decide +kernel, by decide +kernel, by decide +kernel⟩
theorem xor_bad {f : Fm} (hs : strD f.data = true) (hw : wtD f.data ≤ 50) : Bad (.tuple [.str "xor", f.data]) := by
  have kx1 : ((Str.ofString "xor" : Str) = Str.ofString "bit") = False := eq_false (by decide +kernel)
  have kx2 : ((Str.ofString "xor" : Str) = Str.ofString "not") = False := eq_false (by decide +kernel)
  have kx3 : ((Str.ofString "xor" : Str) = Str.ofString "and") = False := eq_false (by decide +kernel)
  have kx4 : ((Str.ofString "xor" : Str) = Str.ofString "or") = False := eq_false (by decide +kernel)
  have kx5 : ((Str.ofString "xor" : Str) = Str.ofString "name") = False := eq_false (by decide +kernel)
  have kx6 : ((Str.ofString "xor" : Str) = Str.ofString "rise") = False := eq_false (by decide +kernel)
  have kx7 : ((Str.ofString "xor" : Str) = Str.ofString "fall") = False := eq_false (by decide +kernel)
  exact ⟨badL_top 39 (by simp [domD, kx1, bne, BEq.beq]) (by simp [partD, partK, kx1, kx2, kx3, kx4, kx5, kx6, kx7]), by simp only [wtD, wtL]; omega, by simp only [strD, strL, hs] <;> decide⟩
theorem three_bad : Bad (.int 3) := ⟨⟨by decide +kernel, by decide +kernel⟩, by decide +kernel, by decide +kernel⟩
def spRefused : Sp := fun vs H Q _ => ∃ (name other x : Str) (v : V), vs = [.str name, .str other, v] ∧ RefIn H v x name other ∧ ∀ H1, Same H H1 → Q (.bl true) H1
section
variable {P : Program} {w : World} {K : PySem.W.Frag} {mg : Str → Option Value} {base : Heap}
theorem rr_2 {k : Nat} (D : Pr P K mg) (f : Addr) (cdv : Value) (A : Around) (outer : List Env) (s : Shared) (H0 : Hp) (Q : VK) (E : XK) (hr : Room (k + 45) (A.deeper (envOfC "_law_refused_right" (defScope s__law_refused_right) s.heap.objs.size f cdv))) :
    ∃ t, PSs (cxOf (CX P w) P w K mg base n__law_refused_right "_law_refused_right" (defScope s__law_refused_right) f cdv A outer s H0 E) ((defBody s__law_refused_right).drop 2) t ∧ ∀ (name other x : Str) (v : V) (c3 c4 c5 : Option V) (H : Hp), RefIn H v x name other → (∀ H1, Same H H1 → Q (.bl true) H1) →
      t { nx := fun _ H' => Q V.non H', rt := Q } [some (.str name), some (.str other), some v, c3, c4, c5, none, none] H := by
  have G__law_word : FnOk P w K mg base (CX P w) (k + 44) D._law_word.f D._law_word.fd ["turn", "formula", "second"] (spWord D.BadFormula.C D.BadName.C D.TooMany.C) := ok_word D
  refine ⟨_, (pss_cons (ps_if (PW.pt (pw_or (pt_cmpR op_ne (pe_call G__law_word (hr.mono (by omega)) (by rfl) D._law_word.g D._law_word.F.kp D._law_word.b .nil (passes_call (takes_of rfl rfl rfl rfl) (fun _ _ _ _ h => h)) (pa_cons pe_int (pa_cons (pv 2) (pa_cons (pe_tup (pa_cons pe_str (pa_cons (pv 2) pa_nil))) pa_nil)))) pe_str (nomark _)) (pw_or1 (pt_cmpR op_ne (pe_call G__law_word (hr.mono (by omega)) (by rfl) D._law_word.g D._law_word.F.kp D._law_word.b .nil (passes_call (takes_of rfl rfl rfl rfl) (fun _ _ _ _ h => h)) (pa_cons pe_int (pa_cons (pv 2) (pa_cons pe_int pa_nil)))) pe_str (nomark _))))) (pss_one (ps_ret pe_bl)) pss_nil)
      (pss_cons (ps_for (by passes_own) rfl (pi_list (pe_lst (pa_cons pe_str (pa_cons pe_str (pa_cons (pe_op op_add_str (pv 1) pe_str) (pa_cons pe_str (pa_cons pe_int (pa_cons pe_non pa_nil)))))))) (pg_name (i := 6) sc__law_refused_right.nd rfl (.inl rfl)) (pss_one (ps_if (pt_cmpR (RG.op_neDD hr) (pe_call G__law_word (hr.mono (by omega)) (by rfl) D._law_word.g D._law_word.F.kp D._law_word.b .nil (passes_call (takes_of rfl rfl rfl rfl) (fun _ _ _ _ h => h)) (pa_cons pe_int (pa_cons (pv 2) (pa_cons (pv 6) pa_nil)))) (pe_tup (pa_cons pe_str (pa_cons (pv 6) pa_nil))) (nomark _)) (pss_one (ps_ret pe_bl)) pss_nil)))
      (pss_cons (ps_set (i := 7) sc__law_refused_right.nd rfl (.inl rfl) (pe_tup (pa_cons pe_str (pa_cons (pe_tup (pa_cons (pe_tup (pa_cons pe_str (pa_cons (pe_callB (call_max2S rfl) (by rfl) D.B.max (by decide +kernel) (pa_cons (pv 0) (pa_cons (pv 1) pa_nil))) pa_nil))) (pa_cons (pe_tup (pa_cons pe_str (pa_cons (pe_callB (call_min2S rfl) (by rfl) D.B.min (by decide +kernel) (pa_cons (pv 0) (pa_cons (pv 1) pa_nil))) pa_nil))) pa_nil))) pa_nil))))
      (pss_one (ps_ret (pe_cmpR (RG.op_eqDD hr) (pe_call G__law_word (hr.mono (by omega)) (by rfl) D._law_word.g D._law_word.F.kp D._law_word.b .nil (passes_call (takes_of rfl rfl rfl rfl) (fun _ _ _ _ h => h)) (pa_cons pe_int (pa_cons (pv 7) (pa_cons pe_dnewK pa_nil)))) (pe_tup (pa_cons pe_str (pa_cons (pe_callB (call_min2S rfl) (by rfl) D.B.min (by decide +kernel) (pa_cons (pv 0) (pa_cons (pv 1) pa_nil))) pa_nil))) (nomark _))))))), ?_⟩
  intro name other x v c3 c4 c5 H b q
  have es : sizeLine = 16777216 := sizeLine_eq
  have two : (2 : Nat) ≤ sizeLine := by decide
  have sx := str_data (.name x) b.nx
  have wx := wt_data (.name x)
  have cx : (Fm.name x).cnt = 1 := rfl
  have xb := xor_bad (f := .name x) sx (by omega)
  refine ⟨v, rfl, v, rfl, two, fun p np => word_join (E := E) (t := 4) (d := (Fm.name x).data) (by omega) (b.same (same_upd np)).arg (fun _ => xb.arg (.tup upd_same (.cons (.str _) (.cons (b.dh.same (same_upd np)) .nil)))) (.inr ⟨by omega, xb.1.1⟩) fun H1 s1 => ⟨rfl, _, rfl, iteFq (by rw [decide_eq_true rfl]; rfl) ?_⟩⟩
  have t1 := (same_upd np (o := .tup [.str "xor", v])).trans s1
  have b1 := b.same t1
  refine ⟨v, rfl, word_join (E := E) (t := 5) (d := (Fm.name x).data) (by omega) b1.arg (fun _ => three_bad.arg (.int 3)) (.inr ⟨by omega, three_bad.1.1⟩) fun H2 s2 => ⟨rfl, _, rfl, iteFq (by rw [decide_eq_true rfl]; rfl) ?_⟩⟩
  have t2 := t1.trans s2
  have b2 := b.same t2
  have lo : other.length ≤ 40 := (nameS_of b.no).2
  refine ⟨.str other, rfl, _, _, rfl, rfl, by rw [show (Str.ofString ".").length = 1 by decide]; omega, by show 6 ≤ sizeLine; omega, fun L nL => ⟨L, rfl, ⟨_, sqL upd_same⟩, ?_⟩⟩
  have sL := same_upd nL (o := .lst [.str "A", .str "", .str (other ++ Str.ofString "."), .str "rise", .int 5, .non])
  have eL : upd H2 L (.lst [.str "A", .str "", .str (other ++ Str.ofString "."), .str "rise", .int 5, .non]) L = some (.lst [.str "A", .str "", .str (other ++ Str.ofString "."), .str "rise", .int 5, .non]) := upd_same
  generalize upd H2 L (.lst [.str "A", .str "", .str (other ++ Str.ofString "."), .str "rise", .int 5, .non]) = H3 at sL eL
  refine forLs (fun i σ H' => (∃ c6, σ = [some (.str name), some (.str other), some v, c3, c4, c5, c6, none]) ∧ Same H3 H') eL ⟨⟨_, rfl⟩, Same.refl _⟩ (fun i σ H' ⟨_, s⟩ => s _ _ eL) ?_ ?_
  · rintro i y σ H4 hx ⟨⟨c6, rfl⟩, s4⟩
    obtain ⟨dw, w1, w2, w3, w4, w5⟩ := wrongs b.no (List.mem_of_getElem? hx)
    have b4 := b2.same (sL.trans s4)
    have ff := form_data (.name x) b.nx
    have lay := told_lay w4 w5
    refine ⟨v, rfl, y, rfl, 2, v, y, .tuple [.str "name", dw], rfl, fun e => absurd e (by omega), fun e => absurd e (by omega), fun _ => ⟨v, y, (Fm.name x).data, rfl, b4.arg, fun e => ?_, fun _ => ⟨.name x, rfl, by simp [Fm.cnt], by simp [Fm.dep], fun e => absurd rfl e, fun _ => ⟨dw, w1 _, w3, .inl ⟨w2, fun d H' s e => ⟨s, .inr (.inl ⟨rfl, d, y, dw, rfl, e, w1 _, rfl⟩)⟩⟩⟩⟩⟩, fun e => absurd e (by omega), fun e => absurd e (by omega), fun e => absurd e (by omega), fun u H5 s5 hu => ?_⟩
    · rw [ff] at e
      have := of_decide_eq_false e
      simp [Fm.dep] at this
    · refine ⟨y, rfl, two, fun p np => ne_same (hu.same (same_upd np)) (.tup upd_same (.cons (.str _) (.cons (w1 _) .nil))) lay.1 lay.2 ⟨false, rfl, iteF ⟨⟨_, rfl⟩, s4.trans (s5.trans (same_upd np))⟩⟩⟩
  · rintro σ H4 ⟨⟨c6, rfl⟩, s4⟩
    have t4 := t2.trans (sL.trans s4)
    have b4 := b.same t4
    obtain ⟨mx, emx⟩ : ∃ mx, (if name.cps.toList < other.cps.toList then other else name) = mx := ⟨_, rfl⟩
    obtain ⟨mn, emn⟩ : ∃ mn, (if other.cps.toList < name.cps.toList then other else name) = mn := ⟨_, rfl⟩
    have nmx : nameB mx = true := by rw [← emx]; split; exact b.no; exact b.nn
    have nmn : nameB mn = true := by rw [← emn]; split; exact b.no; exact b.nn
    have le : ¬ mx.cps.toList < mn.cps.toList := by
      rw [← emx, ← emn]
      intro h
      split at h
      · rename_i h1
        split at h
        · exact List.lt_irrefl _ h
        · exact absurd h (List.lt_asymm h1)
      · rename_i h1
        split at h
        · rename_i h2; exact absurd h (List.lt_asymm h2)
        · exact List.lt_irrefl _ h
    refine ⟨.str name, rfl, .str other, rfl, name, other, rfl, ?_⟩
    rw [emx]
    refine ⟨two, fun p1 np1 => ⟨.str name, rfl, .str other, rfl, name, other, rfl, ?_⟩⟩
    rw [emn]
    refine ⟨two, fun p2 np2 => ⟨two, fun p3 np3 => ⟨two, fun p4 np4 => ?_⟩⟩⟩
    have u1 := same_upd np1 (o := .tup [.str "name", .str mx])
    have u2 := same_upd np2 (o := .tup [.str "name", .str mn])
    have u3 := same_upd np3 (o := .tup [.ref p1, .ref p2])
    have u4 := same_upd np4 (o := .tup [.str "and", .ref p3])
    have hp : Dh (upd (upd (upd (upd H4 p1 (.tup [.str "name", .str mx])) p2 (.tup [.str "name", .str mn])) p3 (.tup [.ref p1, .ref p2])) p4 (.tup [.str "and", .ref p3])) (.ref p4) (Fm.joint false [.name mx, .name mn]).data :=
      dh_joint (w := false) upd_same (u4 _ _ upd_same) (.cons (dh_name (u4 _ _ (u3 _ _ (u2 _ _ upd_same)))) (.cons (dh_name (u4 _ _ (u3 _ _ upd_same))) .nil))
    have t5 := t4.trans (u1.trans (u2.trans (u3.trans u4)))
    generalize upd (upd (upd (upd H4 p1 (.tup [.str "name", .str mx])) p2 (.tup [.str "name", .str mn])) p3 (.tup [.ref p1, .ref p2])) p4 (.tup [.str "and", .ref p3]) = H5 at hp t5
    have okp : (Fm.joint false [.name mx, .name mn]).ok = true := by simp [Fm.ok, okL, nmx, nmn]
    have nms : ∀ y, y ∈ (Fm.joint false [.name mx, .name mn]).nms ↔ y = mx ∨ y = mn := fun y => by
      rw [nms_joint]; simp [Fm.nms, Fm.lvs, nmOf, eq_comm]
    have lay := named_lay nmn
    refine ⟨.ref p4, rfl, fun Z nZ => ⟨1, .ref p4, .ref Z, .tuple [.str "name", .str mn], rfl, fun e => absurd e (by omega), fun _ => ⟨.ref p4, .ref Z, _, rfl, arg_data (hp.same (same_upd nZ)) okp (by simp [Fm.cnt, cntL]), fun e => ?_, fun _ => ⟨_, rfl, by simp [Fm.cnt, cntL], by simp [Fm.dep, depL], fun e => absurd (eds_joint (by simp [Fm.eds, Fm.lvs, edOf])) e, fun _ => ⟨Z, [], rfl, upd_same, .inr ⟨mn, (nms mn).mpr (.inr rfl), rfl, fun y m lt => ?_, fun d H' s e => ⟨s, .inr (.inl ⟨rfl, d, .str mn, .str mn, rfl, e, .str _, rfl⟩)⟩⟩⟩⟩⟩, fun e => absurd e (by omega), fun e => absurd e (by omega), fun e => absurd e (by omega), fun e => absurd e (by omega), fun u H6 s6 hu => ?_⟩⟩
    · rw [form_data _ okp] at e
      have := of_decide_eq_false e
      simp [Fm.dep, depL] at this
    · rcases (nms y).mp m with rfl | rfl
      · exact absurd lt le
      · exact absurd lt (List.lt_irrefl _)
    · refine ⟨.str name, rfl, .str other, rfl, name, other, rfl, ?_⟩
      rw [emn]
      exact ⟨two, fun p np => eq_same (hu.same (same_upd np)) (.tup upd_same (.cons (.str _) (.cons (.str _) .nil))) lay.1 lay.2 (q _ (t5.trans ((same_upd nZ).trans (s6.trans (same_upd np)))))⟩
theorem rr_1 {k : Nat} (D : Pr P K mg) (f : Addr) (cdv : Value) (A : Around) (outer : List Env) (s : Shared) (H0 : Hp) (Q : VK) (E : XK) (hr : Room (k + 45) (A.deeper (envOfC "_law_refused_right" (defScope s__law_refused_right) s.heap.objs.size f cdv))) :
    ∃ t, PSs (cxOf (CX P w) P w K mg base n__law_refused_right "_law_refused_right" (defScope s__law_refused_right) f cdv A outer s H0 E) ((defBody s__law_refused_right).drop 1) t ∧ ∀ (name other x : Str) (v : V) (c3 c4 : Option V) (H : Hp), RefIn H v x name other → (∀ H1, Same H H1 → Q (.bl true) H1) →
      t { nx := fun _ H' => Q V.non H', rt := Q } [some (.str name), some (.str other), some v, c3, c4, none, none, none] H := by
  have G__law_word : FnOk P w K mg base (CX P w) (k + 44) D._law_word.f D._law_word.fd ["turn", "formula", "second"] (spWord D.BadFormula.C D.BadName.C D.TooMany.C) := ok_word D
  obtain ⟨tT, hT, rT⟩ := rr_2 (w := w) (base := base) D f cdv A outer s H0 Q E hr
  refine ⟨_, (pss_cons (ps_for (by passes_own) rfl (pi_list (pe_lst (pa_cons pe_non (pa_cons (pe_tup (pa_cons pe_str (pa_cons pe_int pa_nil))) (pa_cons (pe_tup (pa_cons pe_str (pa_cons (pe_tup (pa_cons (pv 2) pa_nil)) pa_nil))) (pa_cons (pe_lst (pa_cons pe_str (pa_cons (pv 0) pa_nil))) (pa_cons (pe_tup (pa_cons pe_str (pa_cons (pe_op op_add_str (pv 0) pe_str) pa_nil))) (pa_cons (pe_tup (pa_cons pe_str (pa_cons (pe_lst (pa_cons (pv 2) (pa_cons (pv 2) pa_nil))) pa_nil))) pa_nil)))))))) (pg_name (i := 5) sc__law_refused_right.nd rfl (.inl rfl)) (pss_one (ps_for (by passes_own) rfl (pi_range1 (by rfl) D.B.range (pa_cons pe_int pa_nil)) (pg_name (i := 4) sc__law_refused_right.nd rfl (.inl rfl)) (pss_one (ps_if (pt_cmpR op_ne (pe_call G__law_word (hr.mono (by omega)) (by rfl) D._law_word.g D._law_word.F.kp D._law_word.b .nil (passes_call (takes_of rfl rfl rfl rfl) (fun _ _ _ _ h => h)) (pa_cons (pv 4) (pa_cons (pv 5) (pa_cons (pe_ix (r := rIxL K) ix_list (pe_lst (pa_cons pe_non (pa_cons (pe_disp (pps_cons (pv 0) pe_int pps_nil) (by rfl) (by rfl) (by simp) (by decide)) (pa_cons pe_str (pa_cons pe_non (pa_cons (pv 2) (pa_cons (pv 2) pa_nil))))))) (pv 4) (fun _ _ => rfl)) pa_nil)))) pe_str (nomark _)) (pss_one (ps_ret pe_bl)) pss_nil)))))
      hT), ?_⟩
  intro name other x v c3 c4 H b q
  have es : sizeLine = 16777216 := sizeLine_eq
  have ln : name.length ≤ 40 := (nameS_of b.nn).2
  have hd := b.dh
  apply gives_for
  · repeat' (first | exact gds_nil | apply gds_cons | apply gd_tup | apply gd_lst | exact gd_non | exact gd_bl | exact gd_int | exact gd_str | exact gd_var (d := (Fm.name x).data) rfl hd | exact gd_var (d := .str name) rfl (.str name) | exact gd_dot rfl (by omega))
    all_goals (simp only [List.length_cons, List.length_nil]; omega)
  · simp only [List.length_cons, List.length_nil]; omega
  intro L vs H1 s1 eL hds
  have sx := str_data (.name x) b.nx
  have wx := wt_data (.name x)
  have cx : (Fm.name x).cnt = 1 := rfl
  have sn : decide (name.cps.size ≤ 1000000) = true := name_strD b.nn
  have ld : (name ++ Str.ofString ".").length ≤ 41 := by rw [lenApp, show (Str.ofString ".").length = 1 by decide]; omega
  have sd : decide ((name ++ Str.ofString ".").cps.size ≤ 1000000) = true := decide_eq_true (by have : (name ++ Str.ofString ".").cps.size ≤ 41 := ld; omega)
  have nd := dot_bad (z := name)
  have bads : ∀ d ∈ [PyData.none, .tuple [.str "bit", .int 2], .tuple [.str "and", .tuple [(Fm.name x).data]], .list [.str "name", .str name], .tuple [.str "name", .str (name ++ Str.ofString ".")], .tuple [.str "or", .list [(Fm.name x).data, (Fm.name x).data]]], Bad d := by
    intro d m
    simp only [List.mem_cons, List.not_mem_nil, or_false] at m
    rcases m with rfl | rfl | rfl | rfl | rfl | rfl
    · exact ⟨⟨by decide +kernel, by decide +kernel⟩, by decide +kernel, by decide +kernel⟩
    · exact ⟨⟨by decide +kernel, by decide +kernel⟩, by decide +kernel, by decide +kernel⟩
    · refine ⟨badL_top 39 (by simp [domD, bne, BEq.beq]) (by simp [partD, partK, manyD]), by simp only [wtD, wtL]; omega, by simp only [strD, strL, sx] <;> decide⟩
    · refine ⟨badL_top 39 rfl rfl, by simp only [wtD, wtL]; omega, by simp only [strD, strL, sn] <;> decide⟩
    · refine ⟨badL_top 39 (by simp [domD, bne, BEq.beq]) (by simp [partD, partK, nameD, nd]), by simp only [wtD, wtL]; omega, by simp only [strD, strL, sd] <;> decide⟩
    · refine ⟨badL_top 39 (by simp [domD, bne, BEq.beq]) (by simp [partD, partK, manyD]), by simp only [wtD, wtL]; omega, by simp only [strD, strL, sx] <;> decide⟩
  refine ⟨L, rfl, ⟨_, sqL eL⟩, forLs (fun i σ H' => (∃ c4 c5, σ = [some (.str name), some (.str other), some v, c3, c4, c5, none, none]) ∧ Same H1 H') eL ⟨⟨_, _, rfl⟩, Same.refl _⟩ (fun i σ H' ⟨_, s⟩ => s _ _ eL) ?_ ?_⟩
  · rintro i y σ H2 hx ⟨⟨c4, c5, rfl⟩, s2⟩
    obtain ⟨d, ed, hy⟩ := DhAll.get _ hds hx
    have bd := bads d (List.mem_of_getElem? ed)
    refine ⟨6, rfl, by decide, by decide, ?_⟩
    refine forRg (n := 6) (fun j σ H' => (∃ c4, σ = [some (.str name), some (.str other), some v, c3, c4, some y, none, none]) ∧ Same H1 H') ⟨⟨_, rfl⟩, s2⟩ ?_ ?_
    · rintro j σ H3 hj ⟨⟨c4, rfl⟩, s3⟩
      refine ⟨.int (j : Nat), rfl, y, rfl, fun pd npd => ⟨.str name, rfl, upd_same, [(.inr name, .int 1)], rfl, by simp, v, rfl, v, rfl, by show 6 ≤ sizeLine; omega, fun L2 nL2 => ⟨.int (j : Nat), rfl, ?_⟩⟩⟩
      have e1 : mergeK [] [((.inr name : Sum Int Str), V.int 1)] = [(.inr name, .int 1)] := rfl
      rw [e1] at nL2 ⊢
      have u1 : Same H3 (upd (upd H3 pd (.dK [])) pd (.dK [(.inr name, .int 1)])) := fun b o e => by rw [upd_ne (ne_of_none e npd), upd_ne (ne_of_none e npd)]; exact e
      have u2 := same_upd nL2 (o := .lst [.non, .ref pd, .str "A", .non, v, v])
      obtain ⟨w', ew, hw⟩ : ∃ w', ([.non, .ref pd, .str "A", .non, v, v] : List V)[j]? = some w' ∧ (4 ≤ j → w' = v) := by
        match j, hj with
        | 0, _ => exact ⟨_, rfl, fun h => absurd h (by omega)⟩
        | 1, _ => exact ⟨_, rfl, fun h => absurd h (by omega)⟩
        | 2, _ => exact ⟨_, rfl, fun h => absurd h (by omega)⟩
        | 3, _ => exact ⟨_, rfl, fun h => absurd h (by omega)⟩
        | 4, _ => exact ⟨_, rfl, fun _ => rfl⟩
        | 5, _ => exact ⟨_, rfl, fun _ => rfl⟩
      have s4 := s3.trans (u1.trans u2)
      have bH := b.same (s1.trans s4)
      have aY := bd.arg (hy.same s4)
      refine ⟨L2, _, _, w', rfl, rfl, sqL upd_same, atI_nat ew, ?_⟩
      have fin : ∀ H5, Same (upd (upd (upd H3 pd (.dK [])) pd (.dK [(.inr name, .int 1)])) L2 (.lst [.non, .ref pd, .str "A", .non, v, v])) H5 → Same H1 H5 := fun H5 s5 => s4.trans s5
      by_cases h2 : j ≤ 2
      · exact word_ref (E := E) h2 aY (fun e => (by rw [bd.1.1] at e; cases e)) fun H5 s5 => ⟨rfl, _, rfl, iteFq (by rw [decide_eq_true rfl]; rfl) ⟨⟨_, rfl⟩, fin H5 s5⟩⟩
      · exact word_join (E := E) (d := d) (d2 := (Fm.name x).data) (by omega) aY (fun h => by rw [hw (by omega)]; exact bH.arg) (.inl bd.1.1) fun H5 s5 => ⟨rfl, _, rfl, iteFq (by rw [decide_eq_true rfl]; rfl) ⟨⟨_, rfl⟩, fin H5 s5⟩⟩
    · rintro σ H3 ⟨⟨c4, rfl⟩, s3⟩
      exact ⟨⟨_, _, rfl⟩, s3⟩
  · rintro σ H2 ⟨⟨c4, c5, rfl⟩, s2⟩
    exact rT name other x v c3 c4 c5 H2 (b.same (s1.trans s2)) fun H3 s3 => q H3 ((s1.trans s2).trans s3)
theorem ok_refused {k : Nat} (D : Pr P K mg) : FnOk P w K mg base (CX P w) (k + 46) D._law_refused_right.f D._law_refused_right.fd ["name", "other", "leaf"] spRefused := by
  have G__law_word : FnOk P w K mg base (CX P w) (k + 44) D._law_word.f D._law_word.fd ["turn", "formula", "second"] (spWord D.BadFormula.C D.BadName.C D.TooMany.C) := ok_word D
  refine D._law_refused_right.F.okX sc__law_refused_right (fun vs H Q E h => ?_) (fun cdv A outer s H vs Q E hr h => ?_)
  · obtain ⟨name, other, x, v, rfl, _⟩ := h
    rfl
  · obtain ⟨name, other, x, v, rfl, b, q⟩ := h
    have es : sizeLine = 16777216 := sizeLine_eq
    obtain ⟨tT, hT, rT⟩ := rr_1 (w := w) (base := base) D D._law_refused_right.f cdv A outer s H Q E hr
    have hd := b.dh
    refine ⟨_, (pss_cons (ps_for (by passes_own) rfl (pi_list (pe_lst (pa_cons (pe_tup (pa_cons pe_str (pa_cons (pv 0) pa_nil))) (pa_cons (pe_tup (pa_cons pe_str (pa_cons (pe_tup (pa_cons pe_str (pa_cons (pv 0) pa_nil))) pa_nil))) (pa_cons (pe_tup (pa_cons pe_str (pa_cons (pe_tup (pa_cons (pv 2) (pa_cons (pe_tup (pa_cons pe_str (pa_cons (pv 0) pa_nil))) pa_nil))) pa_nil))) pa_nil))))) (pg_name (i := 3) sc__law_refused_right.nd rfl (.inl rfl)) (pss_cons (ps_for (by passes_own) rfl (pi_range1 (by rfl) D.B.range (pa_cons pe_int pa_nil)) (pg_name (i := 4) sc__law_refused_right.nd rfl (.inl rfl)) (pss_one (ps_if (pt_cmpR op_ne (pe_call G__law_word (hr.mono (by omega)) (by rfl) D._law_word.g D._law_word.F.kp D._law_word.b .nil (passes_call (takes_of rfl rfl rfl rfl) (fun _ _ _ _ h => h)) (pa_cons (pv 4) (pa_cons (pv 3) (pa_cons (pe_ix (r := rIxL K) ix_list (pe_lst (pa_cons pe_non (pa_cons (pe_disp (pps_cons (pv 0) pe_int pps_nil) (by rfl) (by rfl) (by simp) (by decide)) (pa_cons (pv 0) pa_nil)))) (pv 4) (fun _ _ => rfl)) pa_nil)))) pe_str (nomark _)) (pss_one (ps_ret pe_bl)) pss_nil))) (pss_one (ps_if (PW.pt (pw_or (pt_cmpR op_ne (pe_call G__law_word (hr.mono (by omega)) (by rfl) D._law_word.g D._law_word.F.kp D._law_word.b .nil (passes_call (takes_of rfl rfl rfl rfl) (fun _ _ _ _ h => h)) (pa_cons pe_int (pa_cons (pv 3) (pa_cons pe_non pa_nil)))) pe_str (nomark _)) (pw_or1 (pt_cmpR op_ne (pe_call G__law_word (hr.mono (by omega)) (by rfl) D._law_word.g D._law_word.F.kp D._law_word.b .nil (passes_call (takes_of rfl rfl rfl rfl) (fun _ _ _ _ h => h)) (pa_cons pe_int (pa_cons (pv 3) (pa_cons (pv 2) pa_nil)))) pe_str (nomark _))))) (pss_one (ps_ret pe_bl)) pss_nil))))
      hT), ?_⟩
    apply gives_for
    · repeat' (first | exact gds_nil | apply gds_cons | apply gd_tup | apply gd_lst | exact gd_non | exact gd_bl | exact gd_int | exact gd_str | exact gd_var (d := (Fm.name x).data) rfl hd | exact gd_var (d := .str name) rfl (.str name))
      all_goals (simp only [List.length_cons, List.length_nil]; omega)
    · simp only [List.length_cons, List.length_nil]; omega
    intro L vs H1 s1 eL hds
    have hds : DhAll H1 vs (([.edge true name, .not (.edge false name), .joint true [.name x, .edge true name]] : List Fm).map Fm.data) := hds
    refine ⟨L, rfl, ⟨_, sqL eL⟩, forLs (fun i σ H' => (∃ c3 c4, σ = [some (.str name), some (.str other), some v, c3, c4, none, none, none]) ∧ Same H1 H') eL ⟨⟨_, _, rfl⟩, Same.refl _⟩ (fun i σ H' ⟨_, s⟩ => s _ _ eL) ?_ ?_⟩
    · rintro i y σ H2 hx ⟨⟨c3, c4, rfl⟩, s2⟩
      obtain ⟨g, eg, hy⟩ := dhAll_at hds hx
      obtain ⟨ok, gd, gc, ge⟩ : g.ok = true ∧ g.dep ≤ 3 ∧ g.cnt ≤ 3 ∧ g.eds ≠ [] := by
        have m := List.mem_of_getElem? eg
        simp only [List.mem_cons, List.not_mem_nil, or_false] at m
        rcases m with rfl | rfl | rfl
        · exact ⟨b.nn, by simp [Fm.dep], by simp [Fm.cnt], by simp [Fm.eds, Fm.lvs, edOf]⟩
        · exact ⟨b.nn, by simp [Fm.dep], by simp [Fm.cnt], by simp [Fm.eds, Fm.lvs, edOf]⟩
        · exact ⟨by simp [Fm.ok, okL, b.nx, b.nn], by simp [Fm.dep, depL], by simp [Fm.cnt, cntL], by simp [Fm.eds, Fm.lvs, lvsL, edOf]⟩
      refine ⟨3, rfl, by decide, by decide, ?_⟩
      refine forRg (n := 3) (fun j σ H' => (∃ c4, σ = [some (.str name), some (.str other), some v, some y, c4, none, none, none]) ∧ Same H1 H') ⟨⟨_, rfl⟩, s2⟩ ?_ ?_
      · rintro j σ H3 hj ⟨⟨c4, rfl⟩, s3⟩
        refine ⟨.int (j : Nat), rfl, y, rfl, fun pd npd => ⟨.str name, rfl, upd_same, [(.inr name, .int 1)], rfl, by simp, .str name, rfl, by show 3 ≤ sizeLine; omega, fun L2 nL2 => ⟨.int (j : Nat), rfl, ?_⟩⟩⟩
        have e1 : mergeK [] [((.inr name : Sum Int Str), V.int 1)] = [(.inr name, .int 1)] := rfl
        rw [e1] at nL2 ⊢
        have u1 : Same H3 (upd (upd H3 pd (.dK [])) pd (.dK [(.inr name, .int 1)])) := fun b o e => by rw [upd_ne (ne_of_none e npd), upd_ne (ne_of_none e npd)]; exact e
        have u2 := same_upd nL2 (o := .lst [.non, .ref pd, .str name])
        obtain ⟨w', ew⟩ : ∃ w', ([.non, .ref pd, .str name] : List V)[j]? = some w' := ⟨_, List.getElem?_eq_getElem (by simpa using hj)⟩
        have s4 := s3.trans (u1.trans u2)
        refine ⟨L2, _, _, w', rfl, rfl, sqL upd_same, atI_nat ew, ?_⟩
        exact word_ref (E := E) (by omega) (arg_data (hy.same s4) ok (by omega)) (fun _ => ⟨g, rfl, ok, by omega, by omega, ge⟩) fun H5 s5 => ⟨rfl, _, rfl, iteFq (by rw [decide_eq_true rfl]; rfl) ⟨⟨_, rfl⟩, s4.trans s5⟩⟩
      · rintro σ H3 ⟨⟨c4, rfl⟩, s3⟩
        have b3 := b.same (s1.trans s3)
        refine ⟨y, rfl, 3, y, .non, .str "none", rfl, fun e => absurd e (by omega), fun e => absurd e (by omega), fun e => absurd e (by omega), fun _ => join_one (f := g) (hy.same s3) ok (by omega) (by omega) fun H4 s4 => ⟨s4, rfl⟩, fun e => absurd e (by omega), fun e => absurd e (by omega), word_q fun H4 s4 => ⟨rfl, _, rfl, iteFq (by rw [decide_eq_true rfl]; rfl) ?_⟩⟩
        have b4 := b3.same s4
        refine ⟨y, rfl, v, rfl, 4, y, v, .str "none", rfl, fun e => absurd e (by omega), fun e => absurd e (by omega), fun e => absurd e (by omega), fun e => absurd e (by omega), fun _ => join_many (fs := [.name x, g]) (.cons b4.dh (.cons (hy.same (s3.trans s4)) .nil)) (by simp [ok, Fm.ok, b.nx]) (by simp only [depL, Fm.dep]; omega) (by simp only [cntL, Fm.cnt]; omega) (by simp) (by simp) fun u H5 s5 _ => ⟨s5, rfl⟩, fun e => absurd e (by omega), word_q fun H5 s5 => ⟨rfl, _, rfl, iteFq (by rw [decide_eq_true rfl]; rfl) ⟨⟨_, _, rfl⟩, s3.trans (s4.trans s5)⟩⟩⟩
    · rintro σ H2 ⟨⟨c3, c4, rfl⟩, s2⟩
      exact rT name other x v c3 c4 H2 (b.same (s1.trans s2)) fun H3 s3 => q H3 ((s1.trans s2).trans s3)
end
end K7

set_option Elab.async false
set_option linter.all false
set_option maxRecDepth 100000
set_option maxHeartbeats 4000000
namespace K7
open PySem PySem.Spec PyProof.Rows L2 GX NdefX
/-! ### _law_closed_right -/
def pairD (p : Fm × List Str) : PyData := .tuple [p.1.data, lstD p.2]
def closedP (x y : Str) (both : List Str) : List (Fm × List Str) :=
  [(.joint true [.name x, .not (.name x)], [x]), (.joint false [.name x, .joint true [.name x, .name y]], both),
   (.joint true [.joint false [.name x, .name y], .joint false [.not (.name y), .name x]], both),
   (.joint false [.joint true [.name x, .name y], .joint true [.name x, .not (.name y)]], both),
   (.joint false [.name x, .bit false], [x]), (.joint true [.bit true, .name y], [y])]
structure Closed (x y : Str) (f : Fm) (ys : List Str) : Prop where
  ok : f.ok = true
  dep : f.dep ≤ 39
  cnt : f.cnt ≤ 100
  eds : f.eds = []
  told : Told ys f.nms
  len : ys.length ≤ 10
  sub : ∀ z ∈ f.nms, z = x ∨ z = y
theorem told_one {x : Str} {zs : List Str} (h : ∀ z, z ∈ zs ↔ z = x) : Told [x] zs := ⟨List.pairwise_singleton _ _, List.nodup_cons.mpr ⟨by simp, List.nodup_nil⟩, fun z => by rw [h z, List.mem_singleton]⟩
theorem told_both {x y : Str} {both zs : List Str} (hp : both.Perm [x, y]) (hu : SX.Up both) (hn : x ≠ y) (h : ∀ z, z ∈ zs ↔ (z = x ∨ z = y)) : Told both zs :=
  ⟨hu, hp.nodup_iff.mpr (List.nodup_cons.mpr ⟨by simpa using hn, List.nodup_cons.mpr ⟨by simp, List.nodup_nil⟩⟩), fun z => by rw [hp.mem_iff, h z]; simp⟩
theorem closed_all {x y : Str} {both : List Str} (hx : nameB x = true) (hy : nameB y = true) (hn : x ≠ y) (hp : both.Perm [x, y]) (hu : SX.Up both) : ∀ p ∈ closedP x y both, Closed x y p.1 p.2 := by
  have hl : both.length ≤ 10 := by rw [hp.length_eq]; show 2 ≤ 10; decide
  intro p m
  simp only [closedP, List.mem_cons, List.not_mem_nil, or_false] at m
  rcases m with rfl | rfl | rfl | rfl | rfl | rfl
  · have hm : ∀ z, z ∈ (Fm.joint true [.name x, .not (.name x)]).nms ↔ z = x := fun z => by simp [Fm.nms, Fm.lvs, lvsL, nmOf]
    exact ⟨by simp [Fm.ok, okL, hx], by simp [Fm.dep, depL], by simp [Fm.cnt, cntL], rfl, told_one hm, by simp, fun z m => .inl ((hm z).mp m)⟩
  · have hm : ∀ z, z ∈ (Fm.joint false [.name x, .joint true [.name x, .name y]]).nms ↔ (z = x ∨ z = y) := fun z => by simp [Fm.nms, Fm.lvs, lvsL, nmOf]
    exact ⟨by simp [Fm.ok, okL, hx, hy], by simp [Fm.dep, depL], by simp [Fm.cnt, cntL], rfl, told_both hp hu hn hm, hl, fun z m => (hm z).mp m⟩
  · have hm : ∀ z, z ∈ (Fm.joint true [.joint false [.name x, .name y], .joint false [.not (.name y), .name x]]).nms ↔ (z = x ∨ z = y) := fun z => by
      show z ∈ [x, y, y, x] ↔ _
      simp only [List.mem_cons, List.not_mem_nil, or_false]
      constructor
      · rintro (h | h | h | h) <;> simp [h]
      · rintro (h | h) <;> simp [h]
    exact ⟨by simp [Fm.ok, okL, hx, hy], by simp [Fm.dep, depL], by simp [Fm.cnt, cntL], rfl, told_both hp hu hn hm, hl, fun z m => (hm z).mp m⟩
  · have hm : ∀ z, z ∈ (Fm.joint false [.joint true [.name x, .name y], .joint true [.name x, .not (.name y)]]).nms ↔ (z = x ∨ z = y) := fun z => by
      show z ∈ [x, y, x, y] ↔ _
      simp only [List.mem_cons, List.not_mem_nil, or_false]
      constructor
      · rintro (h | h | h | h) <;> simp [h]
      · rintro (h | h) <;> simp [h]
    exact ⟨by simp [Fm.ok, okL, hx, hy], by simp [Fm.dep, depL], by simp [Fm.cnt, cntL], rfl, told_both hp hu hn hm, hl, fun z m => (hm z).mp m⟩
  · have hm : ∀ z, z ∈ (Fm.joint false [.name x, .bit false]).nms ↔ z = x := fun z => by simp [Fm.nms, Fm.lvs, lvsL, nmOf]
    exact ⟨by simp [Fm.ok, okL, hx], by simp [Fm.dep, depL], by simp [Fm.cnt, cntL], rfl, told_one hm, by simp, fun z m => .inl ((hm z).mp m)⟩
  · have hm : ∀ z, z ∈ (Fm.joint true [.bit true, .name y]).nms ↔ z = y := fun z => by
      show z ∈ [y] ↔ _
      exact List.mem_singleton
    exact ⟨by simp [Fm.ok, okL, hy], by simp [Fm.dep, depL], by simp [Fm.cnt, cntL], rfl, told_one hm, by simp, fun z m => .inr ((hm z).mp m)⟩
theorem dhStrs_inv {H : Hp} : ∀ {ys : List Str} {vs : List V}, DhAll H vs (ys.map PyData.str) → vs = txs ys
  | [], _, .nil => rfl
  | y :: r, _, .cons (.str _) t => by rw [dhStrs_inv t]; rfl
theorem pair_inv {H : Hp} {v : V} {p : Fm × List Str} (h : Dh H v (pairD p)) : ∃ a u na, v = .ref a ∧ H a = some (.tup [u, .ref na]) ∧ Dh H u p.1.data ∧ H na = some (.lst (txs p.2)) := by
  unfold pairD at h
  cases h with
  | @tup a xs ds e t =>
    cases t with
    | cons h1 t =>
      cases t with
      | cons h2 t =>
        cases t
        unfold lstD at h2
        cases h2 with
        | lst e2 t2 => exact ⟨a, _, _, rfl, e, h1, by rw [dhStrs_inv t2] at e2; exact e2⟩
theorem not_hung {x y : Str} (hn : x ≠ y) : ¬ Hangs (.joint false [.name x, .joint true [.name x, .name y]]) y := by
  rintro ⟨ρ, h⟩
  refine h ?_
  simp only [Fm.ev, evAll, evAny, setB, if_neg hn]
  cases ρ x <;> rfl
def spClosed : Sp := fun vs H Q _ => ∃ x y : Str, vs = [.str x, .str y] ∧ nameB x = true ∧ nameB y = true ∧ x ≠ y ∧ nameB (x ++ Str.ofString "z") = true ∧ x ++ Str.ofString "z" ≠ x ∧ x ++ Str.ofString "z" ≠ y ∧ ∀ H1, Same H H1 → Q (.bl true) H1
section
variable {P : Program} {w : World} {K : PySem.W.Frag} {mg : Str → Option Value} {base : Heap}
theorem ok_closed {k : Nat} (D : Pr P K mg) : RG.FnG P w K mg base (CX P w) (k + 46) D._law_closed_right.f D._law_closed_right.fd ["x", "y"] spClosed := by
  have G_hangs_on : FnOk P w K mg base (CX P w) (k + 43) D.hangs_on.f D.hangs_on.fd ["formula", "name"] (spHangs D.BadFormula.C D.BadName.C D.TooMany.C) := ok_hangs D
  have G__law_bits_right : RG.FnG P w K mg base (CX P w) (k + 45) D._law_bits_right.f D._law_bits_right.fd ["formula", "names", "others"] spBits := ok_bits D
  refine RG.fnG_of D._law_closed_right.F sc__law_closed_right (fun vs H Q E h => ?_) (fun cdv A outer s H vs Q E guard hr h => ?_)
  · obtain ⟨x, y, rfl, _⟩ := h
    rfl
  · obtain ⟨x, y, rfl, hx, hy, hn, hz, z1, z2, q⟩ := h
    have es : sizeLine = 16777216 := sizeLine_eq
    have two : (2 : Nat) ≤ sizeLine := by decide
    have lx : x.length ≤ 40 := (nameS_of hx).2
    refine ⟨_, (pss_cons (ps_set (i := 2) sc__law_closed_right.nd rfl (.inl rfl) (pe_tup (pa_cons pe_str (pa_cons (pv 0) pa_nil))))
      (pss_cons (ps_set (i := 3) sc__law_closed_right.nd rfl (.inl rfl) (pe_tup (pa_cons pe_str (pa_cons (pv 1) pa_nil))))
      (pss_cons (ps_set (i := 4) sc__law_closed_right.nd rfl (.inl rfl) (pe_callB (r := SX.rSortT K) SX.cr_sortT (by rfl) D.B.sorted (by decide +kernel) (pa_cons (pe_lst (pa_cons (pv 0) (pa_cons (pv 1) pa_nil))) pa_nil)))
      (pss_cons (ps_for (by passes_own) rfl (pi_list (pe_lst (pa_cons (pe_tup (pa_cons (pe_tup (pa_cons pe_str (pa_cons (pe_tup (pa_cons (pv 2) (pa_cons (pe_tup (pa_cons pe_str (pa_cons (pv 2) pa_nil))) pa_nil))) pa_nil))) (pa_cons (pe_lst (pa_cons (pv 0) pa_nil)) pa_nil))) (pa_cons (pe_tup (pa_cons (pe_tup (pa_cons pe_str (pa_cons (pe_tup (pa_cons (pv 2) (pa_cons (pe_tup (pa_cons pe_str (pa_cons (pe_tup (pa_cons (pv 2) (pa_cons (pv 3) pa_nil))) pa_nil))) pa_nil))) pa_nil))) (pa_cons (pv 4) pa_nil))) (pa_cons (pe_tup (pa_cons (pe_tup (pa_cons pe_str (pa_cons (pe_tup (pa_cons (pe_tup (pa_cons pe_str (pa_cons (pe_tup (pa_cons (pv 2) (pa_cons (pv 3) pa_nil))) pa_nil))) (pa_cons (pe_tup (pa_cons pe_str (pa_cons (pe_tup (pa_cons (pe_tup (pa_cons pe_str (pa_cons (pv 3) pa_nil))) (pa_cons (pv 2) pa_nil))) pa_nil))) pa_nil))) pa_nil))) (pa_cons (pv 4) pa_nil))) (pa_cons (pe_tup (pa_cons (pe_tup (pa_cons pe_str (pa_cons (pe_tup (pa_cons (pe_tup (pa_cons pe_str (pa_cons (pe_tup (pa_cons (pv 2) (pa_cons (pv 3) pa_nil))) pa_nil))) (pa_cons (pe_tup (pa_cons pe_str (pa_cons (pe_tup (pa_cons (pv 2) (pa_cons (pe_tup (pa_cons pe_str (pa_cons (pv 3) pa_nil))) pa_nil))) pa_nil))) pa_nil))) pa_nil))) (pa_cons (pv 4) pa_nil))) (pa_cons (pe_tup (pa_cons (pe_tup (pa_cons pe_str (pa_cons (pe_tup (pa_cons (pv 2) (pa_cons (pe_tup (pa_cons pe_str (pa_cons pe_int pa_nil))) pa_nil))) pa_nil))) (pa_cons (pe_lst (pa_cons (pv 0) pa_nil)) pa_nil))) (pa_cons (pe_tup (pa_cons (pe_tup (pa_cons pe_str (pa_cons (pe_tup (pa_cons (pe_tup (pa_cons pe_str (pa_cons pe_int pa_nil))) (pa_cons (pv 3) pa_nil))) pa_nil))) (pa_cons (pe_lst (pa_cons (pv 1) pa_nil)) pa_nil))) pa_nil)))))))) (pg_tup rfl (pgs_cons (pg_name (i := 5) sc__law_closed_right.nd rfl (.inl rfl)) (pgs_cons (pg_name (i := 6) sc__law_closed_right.nd rfl (.inl rfl)) pgs_nil))) (pss_one (ps_if (pt_not (pt_val (RG.peG_call G__law_bits_right guard (hr.mono (by omega)) (by rfl) D._law_bits_right.g D._law_bits_right.F.kp D._law_bits_right.b .nil (passes_call (takes_of rfl rfl rfl rfl) (fun _ _ _ _ h => h)) (pa_cons (pv 5) (pa_cons (pv 6) (pa_cons (pe_lst (pa_cons (pe_op op_add_str (pv 0) pe_str) pa_nil)) pa_nil)))))) (pss_one (ps_ret pe_bl)) pss_nil)))
      (pss_one (ps_ret (pe_cmpR op_is_bl (pe_call G_hangs_on (hr.mono (by omega)) (by rfl) D.hangs_on.g D.hangs_on.F.kp D.hangs_on.b .nil (passes_call (takes_of rfl rfl rfl rfl) (fun _ _ _ _ h => h)) (pa_cons (pe_tup (pa_cons pe_str (pa_cons (pe_tup (pa_cons (pv 2) (pa_cons (pe_tup (pa_cons pe_str (pa_cons (pe_tup (pa_cons (pv 2) (pa_cons (pv 3) pa_nil))) pa_nil))) pa_nil))) pa_nil))) (pa_cons (pv 1) pa_nil))) pe_bl (nomark _)))))))), ?_⟩
    refine ⟨.str x, rfl, two, fun pa npa => ⟨.str y, rfl, two, fun pb npb => ?_⟩⟩
    have s1 := same_upd npa (o := .tup [.str "name", .str x])
    have s2 := same_upd npb (o := .tup [.str "name", .str y])
    have ha : Dh (upd (upd H pa (.tup [.str "name", .str x])) pb (.tup [.str "name", .str y])) (.ref pa) (Fm.name x).data := dh_name (s2 _ _ upd_same)
    have hb : Dh (upd (upd H pa (.tup [.str "name", .str x])) pb (.tup [.str "name", .str y])) (.ref pb) (Fm.name y).data := dh_name upd_same
    have s12 := s1.trans s2
    generalize upd (upd H pa (.tup [.str "name", .str x])) pb (.tup [.str "name", .str y]) = H1 at ha hb s12
    refine ⟨.str x, rfl, .str y, rfl, two, fun L nL => ⟨L, [x, y], rfl, sqL upd_same, fun both B hp hu nB => ?_⟩⟩
    have s3 := (same_upd nL (o := .lst [.str x, .str y])).trans (same_upd nB (o := .lst (both.map V.str)))
    have hB : Dh (upd (upd H1 L (.lst [.str x, .str y])) B (.lst (both.map V.str))) (.ref B) (lstD both) := lst_dh upd_same
    have ha := ha.same s3
    have hb := hb.same s3
    have s13 := s12.trans s3
    generalize upd (upd H1 L (.lst [.str x, .str y])) B (.lst (both.map V.str)) = H2 at ha hb hB s13
    delta gName
    dsimp only
    apply gives_for
    · repeat' (first | exact gds_nil | apply gds_cons | apply gd_tup | apply gd_lst | exact gd_int | exact gd_str | exact gd_var (d := (Fm.name x).data) rfl ha | exact gd_var (d := (Fm.name y).data) rfl hb | exact gd_var (d := lstD both) rfl hB | exact gd_var (d := .str x) rfl (.str x) | exact gd_var (d := .str y) rfl (.str y))
      all_goals (simp only [List.length_cons, List.length_nil]; omega)
    · simp only [List.length_cons, List.length_nil]; omega
    intro M vs H3 s4 eM hds
    have hds : DhAll H3 vs ((closedP x y both).map pairD) := hds
    have s14 := s13.trans s4
    refine ⟨M, rfl, ⟨_, sqL eM⟩, forLs (fun i σ H' => (∃ c5 c6, σ = [some (.str x), some (.str y), some (.ref pa), some (.ref pb), some (.ref B), c5, c6]) ∧ Same H3 H') eM ⟨⟨_, _, rfl⟩, Same.refl _⟩ (fun i σ H' ⟨_, s⟩ => s _ _ eM) ?_ ?_⟩
    · rintro i v σ H4 hv ⟨⟨c5, c6, rfl⟩, s5⟩
      obtain ⟨d, ed, hd⟩ := DhAll.get _ hds hv
      rw [List.getElem?_map] at ed
      obtain ⟨p, ep, rfl⟩ := Option.map_eq_some_iff.mp ed
      have c := closed_all hx hy hn hp hu p (List.mem_of_getElem? ep)
      obtain ⟨a, u, na, rfl, ea, hu1, en⟩ := pair_inv (hd.same s5)
      refine ⟨a, _, rfl, sqT ea, rfl, u, _, rfl, .ref na, _, rfl, rfl, ?_⟩
      refine ⟨u, rfl, .ref na, rfl, .str x, rfl, _, _, rfl, rfl, by rw [show (Str.ofString "z").length = 1 by decide]; omega, by show 1 ≤ sizeLine; omega, fun oa no => ?_⟩
      have so := same_upd no (o := .lst [.str (x ++ Str.ofString "z")])
      refine ⟨u, na, oa, p.1, p.2, [x ++ Str.ofString "z"], rfl, ⟨hu1.same so, c.ok, c.dep, c.cnt, c.eds, so _ _ en, upd_same, c.told, c.len, by show 1 ≤ 1000; decide, fun o m => ?_⟩, fun H5 s6 => ⟨true, rfl, iteF ⟨⟨_, _, rfl⟩, s5.trans (so.trans s6)⟩⟩⟩
      rw [List.mem_singleton.mp m]
      exact ⟨hz, fun m => (c.sub _ m).elim z1 z2⟩
    · rintro σ H4 ⟨⟨c5, c6, rfl⟩, s5⟩
      have ha4 := (ha.same s4).same s5
      have hb4 := (hb.same s4).same s5
      refine ⟨.ref pa, rfl, .ref pa, rfl, .ref pb, rfl, two, fun p1 np1 => ⟨two, fun p2 np2 => ⟨two, fun p3 np3 => ⟨two, fun p4 np4 => ?_⟩⟩⟩⟩
      have u1 := same_upd np1 (o := .tup [.ref pa, .ref pb])
      have u2 := same_upd np2 (o := .tup [.str "or", .ref p1])
      have u3 := same_upd np3 (o := .tup [.ref pa, .ref p2])
      have u4 := same_upd np4 (o := .tup [.str "and", .ref p3])
      have h2 : Dh (upd (upd H4 p1 (.tup [.ref pa, .ref pb])) p2 (.tup [.str "or", .ref p1])) (.ref p2) (Fm.joint true [.name x, .name y]).data := dh_joint (w := true) upd_same (u2 _ _ upd_same) (.cons (ha4.same (u1.trans u2)) (.cons (hb4.same (u1.trans u2)) .nil))
      have h4 : Dh (upd (upd (upd (upd H4 p1 (.tup [.ref pa, .ref pb])) p2 (.tup [.str "or", .ref p1])) p3 (.tup [.ref pa, .ref p2])) p4 (.tup [.str "and", .ref p3])) (.ref p4) (Fm.joint false [.name x, .joint true [.name x, .name y]]).data :=
        dh_joint (w := false) upd_same (u4 _ _ upd_same) (.cons (ha4.same (u1.trans (u2.trans (u3.trans u4)))) (.cons (h2.same (u3.trans u4)) .nil))
      have t4 := u1.trans (u2.trans (u3.trans u4))
      generalize upd (upd (upd (upd H4 p1 (.tup [.ref pa, .ref pb])) p2 (.tup [.str "or", .ref p1])) p3 (.tup [.ref pa, .ref p2])) p4 (.tup [.str "and", .ref p3]) = H5 at h4 t4
      have c := closed_all hx hy hn hp hu (.joint false [.name x, .joint true [.name x, .name y]], both) (by simp [closedP])
      have cok : (Fm.joint false [.name x, .joint true [.name x, .name y]]).ok = true := c.ok
      refine ⟨.str y, rfl, .ref p4, .str y, _, rfl, arg_data h4 cok (by simp [Fm.cnt, cntL]), fun e => ?_, fun _ => ⟨_, rfl, by simp [Fm.cnt, cntL], by simp [Fm.dep, depL], fun e => absurd c.eds e, fun _ => ⟨.str y, .str y, name_strD hy, .inr ⟨y, both, rfl, rfl, hy, c.told, .inr ⟨c.len, fun r H6 s6 hr6 => ?_⟩⟩⟩⟩⟩
      · rw [form_data _ cok] at e
        have := of_decide_eq_false e
        simp [Fm.dep, depL] at this
      · have : r = false := by
          cases r with
          | false => rfl
          | true => exact absurd (hr6.mp rfl) (not_hung hn)
        subst this
        exact ⟨false, false, rfl, rfl, q H6 (s14.trans (s5.trans (t4.trans s6)))⟩
end
end K7

set_option Elab.async false
set_option linter.all false
set_option maxRecDepth 100000
set_option maxHeartbeats 4000000
namespace K7
open PySem PySem.Spec PyProof.Rows L2 GX NdefX
/-! ### _law_depths_right -/
theorem keepF {a : Addr} {H H' : Hp} {v : V} {f : Fm} (s : SameB a H H') (n : NumsAt H a) (h : Dh H v f.data) : Dh H' v f.data := Dh.tups (s.tups n) _ _ (noL_data f) h
theorem rai_we2 {Cf Cn Cm : Addr} {H : Hp} {dW : PyData} (e : dW = .str "formula") : RaiN (WE Cf Cn Cm H dW) Cf H := fun H' s => ⟨s, .inl ⟨rfl, rfl, e⟩⟩
theorem join_deep {C : Addr} {w b : Bool} {xs : List V} {fs : List Fm} {H : Hp} {Q : VK} {E : XK} (h : DhAll H xs (fs.map Fm.data)) (ok : ∀ f ∈ fs, f.ok = true ∧ f.dep ≤ 40) (hc : cntL fs ≤ 2000) (l2 : 2 ≤ fs.length) (l5 : fs.length ≤ 5) (q : depL fs < 40 → ∀ u H1, Same H H1 → Dh H1 u (Fm.joint w fs).data → Q u H1) (e : 40 ≤ depL fs → RaiN E C H) : JoinAsk C w b xs H Q E :=
  ⟨by rw [dhAll_len h]; exact l5, .inr ⟨fs, h, ok, hc, .inr (.inr ⟨l2, q, e⟩)⟩⟩
theorem word_deep {Cf Cn Cm : Addr} {t d : Nat} {v v2 : V} {f : Fm} {y dw : Str} {H : Hp} {Q : VK} {E : XK} (ht : t = 0 ∨ t = 4 ∨ t = 5) (hd : (d = 39 ∧ dw = Str.ofString "none") ∨ (d = 40 ∧ dw = Str.ofString "formula")) (h : Dh H v f.data) (df : DeepF f d 1)
    (h2 : t ≠ 0 → Dh H v2 (Fm.name y).data ∧ nameB y = true) (q : ∀ H1, Same H H1 → Q (.str dw) H1) : spWord Cf Cn Cm [.int (t : Nat), v, v2] H Q E := by
  have hdp := df.dep
  have hng := df.neg
  have hcn := df.cnt
  have d40 : d ≤ 40 := by omega
  have dN : d < 40 → (PyData.str dw) = .str "none" := fun e => by
    rcases hd with ⟨_, e2⟩ | ⟨e2, _⟩
    · rw [e2]
    · omega
  have dF : 40 ≤ d → (PyData.str dw) = .str "formula" := fun e => by
    rcases hd with ⟨e2, _⟩ | ⟨_, e2⟩
    · omega
    · rw [e2]
  refine ⟨t, v, v2, .str dw, rfl, fun _ => ⟨v, f.data, rfl, arg_data h df.ok (by omega), fun e => ?_, fun _ => ⟨f, rfl, by omega, by omega, df.ok, fun e => absurd df.eds e, fun _ => ⟨fun lt => rai_we2 (dF (by omega)), fun le u H1 s hu => ⟨s, dN (by omega)⟩⟩⟩⟩, fun e => absurd e (by omega), fun e => absurd e (by omega), fun e => absurd e (by omega), fun e => ?_, fun e => ?_, word_q q⟩
  · rw [form_data f df.ok] at e
    have := of_decide_eq_false e
    omega
  · obtain ⟨hy, ny⟩ := h2 (by omega)
    refine join_deep (fs := [.name y, f]) (.cons hy (.cons h .nil)) (fun g m => ?_) (by simp only [cntL, Fm.cnt]; omega) (by simp) (by simp) (fun lt u H1 s hu => ⟨s, dN (by simp only [depL, Fm.dep] at lt; omega)⟩) (fun le => rai_we2 (dF (by simp only [depL, Fm.dep] at le; omega)))
    simp only [List.mem_cons, List.not_mem_nil, or_false] at m
    rcases m with rfl | rfl
    · exact ⟨ny, by simp [Fm.dep]⟩
    · exact ⟨df.ok, by omega⟩
  · obtain ⟨hy, ny⟩ := h2 (by omega)
    refine join_deep (fs := [f, .name y, f]) (.cons h (.cons hy (.cons h .nil))) (fun g m => ?_) (by simp only [cntL, Fm.cnt]; omega) (by simp) (by simp) (fun lt u H1 s hu => ⟨s, dN (by simp only [depL, Fm.dep] at lt; omega)⟩) (fun le => rai_we2 (dF (by simp only [depL, Fm.dep] at le; omega)))
    simp only [List.mem_cons, List.not_mem_nil, or_false] at m
    rcases m with rfl | rfl | rfl
    · exact ⟨df.ok, by omega⟩
    · exact ⟨ny, by simp [Fm.dep]⟩
    · exact ⟨df.ok, by omega⟩
def spDepths : Sp := fun vs H Q _ => ∃ (a : Addr) (name other : Str), vs = [.ref a, .str name, .str other] ∧ NumsAt H a ∧ nameB name = true ∧ nameB other = true ∧ ∀ H1, Q (.bl true) H1
section
variable {P : Program} {w : World} {K : PySem.W.Frag} {mg : Str → Option Value} {base : Heap}
theorem ok_depths {k : Nat} (D : Pr P K mg) : FnOk P w K mg base (CX P w) (k + 45) D._law_depths_right.f D._law_depths_right.fd ["numbers", "name", "other"] spDepths := by
  have G__law_draw : FnOk P w K mg base CX0 (k + 1) D._law_draw.f D._law_draw.fd ["numbers", "many"] spDraw := ok_drawD D
  have G__law_deep : FnOk P w K mg base CX0 (k + 2) D._law_deep.f D._law_deep.fd ["numbers", "leaf", "other", "depth"] spDeep := ok_deep D
  have G__law_word : FnOk P w K mg base (CX P w) (k + 44) D._law_word.f D._law_word.fd ["turn", "formula", "second"] (spWord D.BadFormula.C D.BadName.C D.TooMany.C) := ok_word D
  have G_turned : FnOk P w K mg base (CX P w) (k + 42) D.turned.f D.turned.fd ["formula"] (spTurned D.BadFormula.C) := ok_turned D
  have G__law_turned : FnOk P w K mg base CX0 (k + 1) D._law_turned.f D._law_turned.fd ["formula"] spLTurned := ok_lturned D
  have G_all_of : FnR P w K mg base (CX P w) (k + 7) D.all_of.f (spStar D.BadFormula.C false true) := ok_allof D
  have G_any_of : FnR P w K mg base (CX P w) (k + 7) D.any_of.f (spStar D.BadFormula.C true false) := ok_anyof D
  refine D._law_depths_right.F.okX sc__law_depths_right (fun vs H Q E h => ?_) (fun cdv A outer s H vs Q E hr h => ?_)
  · obtain ⟨a, name, other, rfl, _⟩ := h
    rfl
  · obtain ⟨a, name, other, rfl, nn, nm, no, q⟩ := h
    have two : (2 : Nat) ≤ sizeLine := by decide
    refine ⟨_, (pss_cons (ps_set (i := 3) sc__law_depths_right.nd rfl (.inl rfl) (pe_tup (pa_cons pe_str (pa_cons (pv 1) pa_nil))))
      (pss_cons (ps_set (i := 4) sc__law_depths_right.nd rfl (.inl rfl) (pe_tup (pa_cons pe_str (pa_cons (pe_call G__law_draw (hr.mono (by omega)) (by rfl) D._law_draw.g D._law_draw.F.kp D._law_draw.b .nil pass0 (pa_cons (pv 0) (pa_cons pe_int pa_nil))) pa_nil))))
      (pss_cons (ps_for (by passes_own) rfl (pi_tup (pe_tup (pa_cons pe_int (pa_cons pe_int pa_nil)))) (pg_name (i := 5) sc__law_depths_right.nd rfl (.inl rfl)) (pss_cons (ps_set (i := 6) sc__law_depths_right.nd rfl (.inl rfl) (pe_call G__law_deep (hr.mono (by omega)) (by rfl) D._law_deep.g D._law_deep.F.kp D._law_deep.b .nil pass0 (pa_cons (pv 0) (pa_cons (pv 3) (pa_cons (pv 4) (pa_cons (pv 5) pa_nil)))))) (pss_cons (ps_set (i := 7) sc__law_depths_right.nd rfl (.inl rfl) (pe_call G__law_deep (hr.mono (by omega)) (by rfl) D._law_deep.g D._law_deep.F.kp D._law_deep.b .nil pass0 (pa_cons (pv 0) (pa_cons (pe_tup (pa_cons pe_str (pa_cons (pe_call G__law_draw (hr.mono (by omega)) (by rfl) D._law_draw.g D._law_draw.F.kp D._law_draw.b .nil pass0 (pa_cons (pv 0) (pa_cons pe_int pa_nil))) pa_nil))) (pa_cons (pv 4) (pa_cons (pv 5) pa_nil)))))) (pss_cons (ps_set (i := 8) sc__law_depths_right.nd rfl (.inl rfl) pe_str) (pss_cons (ps_if (pt_cmpR op_eq (pv 5) pe_int (nomark _)) (pss_one (ps_set (i := 8) sc__law_depths_right.nd rfl (.inl rfl) pe_str)) pss_nil) (pss_cons (ps_if (PW.pt (pw_or (pt_cmpR op_ne (pe_call G__law_word (hr.mono (by omega)) (by rfl) D._law_word.g D._law_word.F.kp D._law_word.b .nil (passes_call (takes_of rfl rfl rfl rfl) (fun _ _ _ _ h => h)) (pa_cons pe_int (pa_cons (pv 6) (pa_cons pe_non pa_nil)))) (pv 8) (nomark _)) (pw_or1 (PW.pt (pw_and (pt_cmpR op_eq (pv 8) pe_str (nomark _)) (pw_and1 (pt_cmpR (RG.op_neDD hr) (pe_call G_turned (hr.mono (by omega)) (by rfl) D.turned.g D.turned.F.kp D.turned.b .nil (passes_call (takes_of rfl rfl rfl rfl) (fun _ _ _ _ h => h)) (pa_cons (pv 6) pa_nil)) (pe_call G__law_turned (hr.mono (by omega)) (by rfl) D._law_turned.g D._law_turned.F.kp D._law_turned.b .nil pass0 (pa_cons (pv 6) pa_nil)) (nomark _)))))))) (pss_one (ps_ret pe_bl)) pss_nil) (pss_cons (ps_if (pt_cmpR (RG.op_neDD hr) (pe_call G_turned (hr.mono (by omega)) (by rfl) D.turned.g D.turned.F.kp D.turned.b .nil (passes_call (takes_of rfl rfl rfl rfl) (fun _ _ _ _ h => h)) (pa_cons (pv 7) pa_nil)) (pe_call G__law_turned (hr.mono (by omega)) (by rfl) D._law_turned.g D._law_turned.F.kp D._law_turned.b .nil pass0 (pa_cons (pv 7) pa_nil)) (nomark _)) (pss_one (ps_ret pe_bl)) pss_nil) (pss_cons (ps_for (by passes_own) rfl (pi_tup (pe_tup (pa_cons pe_int (pa_cons pe_int pa_nil)))) (pg_name (i := 9) sc__law_depths_right.nd rfl (.inl rfl)) (pss_one (ps_if (pt_cmpR op_ne (pe_call G__law_word (hr.mono (by omega)) (by rfl) D._law_word.g D._law_word.F.kp D._law_word.b .nil (passes_call (takes_of rfl rfl rfl rfl) (fun _ _ _ _ h => h)) (pa_cons (pv 9) (pa_cons (pv 6) (pa_cons (pe_tup (pa_cons pe_str (pa_cons (pv 2) pa_nil))) pa_nil)))) (pv 8) (nomark _)) (pss_one (ps_ret pe_bl)) pss_nil))) (pss_one (ps_if (PW.pt (pw_or (pt_cmpR (RG.op_neDD hr) (pe_callR G_all_of (hr.mono (by omega)) (by rfl) D.all_of.g D.all_of.F.kp (passes_call (takes_of rfl rfl rfl rfl) (fun _ _ _ _ h => h)) (pa_cons (pv 6) pa_nil)) (pv 6) (nomark _)) (pw_or1 (pt_cmpR (RG.op_neDD hr) (pe_callR G_any_of (hr.mono (by omega)) (by rfl) D.any_of.g D.any_of.F.kp (passes_call (takes_of rfl rfl rfl rfl) (fun _ _ _ _ h => h)) (pa_cons (pv 7) pa_nil)) (pv 7) (nomark _))))) (pss_one (ps_ret pe_bl)) pss_nil))))))))))
      (pss_one (ps_ret pe_bl))))), ?_⟩
    have bitD : ∀ (H : Hp) (p : Addr) (r : Nat), r < 2 → Dh (upd H p (.tup [.str "bit", .int (r : Nat)])) (.ref p) (Fm.bit (decide (r = 1))).data := fun H p r hr2 => by
      obtain rfl | rfl : r = 0 ∨ r = 1 := by omega
      · exact .tup upd_same (.cons (.str _) (.cons (.int _) .nil))
      · exact .tup upd_same (.cons (.str _) (.cons (.int _) .nil))
    refine ⟨.str name, rfl, two, fun pa npa => ?_⟩
    refine ⟨.ref a, rfl, a, 2, rfl, by decide, nn.same (same_upd npa), fun H2 r2 hr2 s2 n2 => ⟨two, fun pb npb => ?_⟩⟩
    have ha : Dh H2 (.ref pa) (Fm.name name).data := keepF s2 (nn.same (same_upd npa)) (dh_name upd_same)
    have sb := same_upd npb (o := .tup [.str "bit", .int (r2 : Nat)])
    have hb := bitD H2 pb r2 hr2
    have ha := ha.same sb
    have n3 := n2.same sb
    generalize upd H2 pb (.tup [.str "bit", .int (r2 : Nat)]) = H3 at ha hb n3
    generalize decide (r2 = 1) = bb at hb
    refine ⟨two, fun tp ntp => ⟨tp, rfl, ⟨_, sqT upd_same⟩, ?_⟩⟩
    have st := same_upd ntp (o := .tup [.int 39, .int 40])
    have tn : tp ≠ a := nums_ne n3 ntp
    have et : upd H3 tp (.tup [.int 39, .int 40]) tp = some (.tup [.int 39, .int 40]) := upd_same
    have ha := ha.same st
    have hb := hb.same st
    have n4 := n3.same st
    generalize upd H3 tp (.tup [.int 39, .int 40]) = H4 at ha hb n4 et
    refine forTt (fun i σ H' => (∃ c5 c6 c7 c8 c9, σ = [some (.ref a), some (.str name), some (.str other), some (.ref pa), some (.ref pb), c5, c6, c7, c8, c9]) ∧ SameB a H4 H' ∧ NumsAt H' a ∧ Dh H' (.ref pa) (Fm.name name).data ∧ Dh H' (.ref pb) (Fm.bit bb).data ∧ H' tp = some (.tup [.int 39, .int 40])) et ⟨⟨_, _, _, _, _, rfl⟩, SameB.refl, n4, ha, hb, et⟩ (fun i σ H' o ⟨_, _, _, _, _, e'⟩ e => by rw [et] at e; rw [e']; exact e) ?_ ?_
    · rintro i x σ H5 hx ⟨⟨c5, c6, c7, c8, c9, rfl⟩, s5, n5, ha5, hb5, et5⟩
      obtain ⟨d, rfl, hd⟩ : ∃ d : Nat, x = .int (d : Nat) ∧ (d = 39 ∨ d = 40) := by
        match i, hx with
        | 0, hx => exact ⟨39, by simpa using hx.symm, .inl rfl⟩
        | 1, hx => exact ⟨40, by simpa using hx.symm, .inr rfl⟩
      have fn : DeepF (.name name) 1 1 := ⟨nm, by simp [Fm.dep], by simp [Fm.neg, Fm.dep], by simp [Fm.cnt], rfl⟩
      have fb : ∀ b, DeepF (.bit b) 1 0 := fun b => ⟨rfl, by simp [Fm.dep], by simp [Fm.neg, Fm.dep], by simp [Fm.cnt], rfl⟩
      refine ⟨.ref a, rfl, .ref pa, rfl, .ref pb, rfl, .int (d : Nat), rfl, a, .ref pa, .ref pb, .name name, bb, 1, d, rfl, by omega, by omega, n5, ha5, fn, hb5, fun vo H6 F s6 n6 hF dF => ?_⟩
      have ha6 := keepF s6 n5 ha5
      have hb6 := keepF s6 n5 hb5
      refine ⟨.ref a, rfl, .ref a, rfl, a, 2, rfl, by decide, n6, fun H7 r7 hr7 s7 n7 => ⟨two, fun pu npu => ?_⟩⟩
      have su := same_upd npu (o := .tup [.str "bit", .int (r7 : Nat)])
      have hu := bitD H7 pu r7 hr7
      have s67 := s7.trans (sameB_of su)
      have ha7 := keepF s67 n6 ha6
      have hb7 := keepF s67 n6 hb6
      have hF7 := keepF s67 n6 hF
      have n7 := n7.same su
      generalize upd H7 pu (.tup [.str "bit", .int (r7 : Nat)]) = H8 at hu s67 ha7 hb7 hF7 n7
      refine ⟨.ref pb, rfl, .int (d : Nat), rfl, a, .ref pu, .ref pb, .bit (decide (r7 = 1)), bb, 0, d, rfl, by omega, by omega, n7, hu, fb _, hb7, fun vu H9 U s9 n9 hU dU => ?_⟩
      have ha9 := keepF s9 n7 ha7
      have hb9 := keepF s9 n7 hb7
      have hF9 := keepF s9 n7 hF7
      have s09 := s5.trans (s6.trans (s67.trans s9))
      have okF := dF.ok
      have depF := dF.dep
      have cntF := dF.cnt
      have negF := dF.neg
      have okU := dU.ok
      have depU := dU.dep
      have cntU := dU.cnt
      have negU := dU.neg
      have nokF : F.neg.ok = true := (neg_facts F).2.2.1.trans okF
      have nokU : U.neg.ok = true := (neg_facts U).2.2.1.trans okU
      have layF := lay_data F.neg nokF
      have layU := lay_data U.neg nokU
      have dptF := depth_data F.neg
      have dptU := depth_data U.neg
      refine ⟨.int (d : Nat), rfl, rfl, _, rfl, ?_⟩
      rw [show decide (V.int (d : Nat) = V.int 40) = decide (d = 40) from intEq _ 40]
      rcases hd with rfl | rfl
      case' inl =>
        refine iteF ?_
        have hdw : ((39 : Nat) = 39 ∧ Str.ofString "none" = Str.ofString "none") ∨ ((39 : Nat) = 40 ∧ Str.ofString "none" = Str.ofString "formula") := .inl ⟨rfl, rfl⟩
        refine ⟨vo, rfl, word_deep (E := E) (t := 0) (y := name) (.inl rfl) hdw hF9 dF (fun e => absurd rfl e) fun H10 s10 => ⟨_, rfl, rfl, _, rfl, iteFq (by rw [decide_eq_true rfl]; rfl) ?_⟩⟩
        refine ⟨_, rfl, rfl, _, rfl, iteT ?_⟩
        have hF10 := hF9.same s10
        refine ⟨vo, rfl, vo, F.data, rfl, arg_data hF10 okF (by omega), fun e => (by rw [form_data F okF] at e; have := of_decide_eq_false e; omega), fun _ => ⟨F, rfl, by omega, by omega, okF, fun e => absurd dF.eds e, fun _ => ⟨fun h => absurd h (by omega), fun _ u1 H11 s11 hu1 => ?_⟩⟩⟩
        refine ⟨vo, rfl, vo, F, rfl, hF10.same s11, dF.eds, by omega, fun u2 H12 s12 hu2 => ne_same (hu1.same s12) hu2 layF (by omega) ⟨_, rfl, iteF ?_⟩⟩
        have s9e := s10.trans (s11.trans s12)
      case' inr =>
        refine iteT ?_
        have hdw : ((40 : Nat) = 39 ∧ Str.ofString "formula" = Str.ofString "none") ∨ ((40 : Nat) = 40 ∧ Str.ofString "formula" = Str.ofString "formula") := .inr ⟨rfl, rfl⟩
        refine ⟨vo, rfl, word_deep (E := E) (t := 0) (y := name) (.inl rfl) hdw hF9 dF (fun e => absurd rfl e) fun H10 s10 => ⟨_, rfl, rfl, _, rfl, iteFq (by rw [decide_eq_true rfl]; rfl) ?_⟩⟩
        refine ⟨_, rfl, rfl, _, rfl, iteFq (by decide) (iteF ?_)⟩
        obtain ⟨H12, e12⟩ : ∃ H12, H12 = H10 := ⟨_, rfl⟩
        have s9e : Same H9 H12 := e12 ▸ s10
        rw [← e12]
      all_goals
        have hF12 := hF9.same s9e
        have hU12 := hU.same s9e
        refine ⟨vu, rfl, vu, U.data, rfl, arg_data hU12 okU (by omega), fun e => (by rw [form_data U okU] at e; have := of_decide_eq_false e; omega), fun _ => ⟨U, rfl, by omega, by omega, okU, fun e => absurd dU.eds e, fun _ => ⟨fun h => absurd h (by omega), fun _ u1 H13 s13 hu1 => ?_⟩⟩⟩
        refine ⟨vu, rfl, vu, U, rfl, hU12.same s13, dU.eds, by omega, fun u2 H14 s14 hu2 => ne_same (hu1.same s14) hu2 layU (by omega) ⟨_, rfl, iteF ?_⟩⟩
        have s914 := s9e.trans (s13.trans s14)
        refine ⟨two, fun t5 nt5 => ⟨t5, rfl, ⟨_, sqT upd_same⟩, ?_⟩⟩
        have s5t := same_upd nt5 (o := .tup [.int 4, .int 5])
        have e5t : upd H14 t5 (.tup [.int 4, .int 5]) t5 = some (.tup [.int 4, .int 5]) := upd_same
        have s915 := s914.trans s5t
        generalize upd H14 t5 (.tup [.int 4, .int 5]) = H15 at s915 e5t
        refine forTt (fun i σ H' => (∃ c9, σ = [some (.ref a), some (.str name), some (.str other), some (.ref pa), some (.ref pb), some (.int _), some vo, some vu, some (.str _), c9]) ∧ Same H15 H') e5t ⟨⟨_, rfl⟩, Same.refl _⟩ (fun i σ H' o ⟨_, s⟩ e => s _ _ e) ?_ ?_
        · rintro j x σ H16 hx ⟨⟨c9, rfl⟩, s16⟩
          obtain ⟨t, rfl, ht⟩ : ∃ t : Nat, x = .int (t : Nat) ∧ (t = 4 ∨ t = 5) := by
            match j, hx with
            | 0, hx => exact ⟨4, by simpa using hx.symm, .inl rfl⟩
            | 1, hx => exact ⟨5, by simpa using hx.symm, .inr rfl⟩
          refine ⟨.int (t : Nat), rfl, vo, rfl, .str other, rfl, two, fun po npo => word_deep (E := E) (t := t) (y := other) (by omega) hdw (((hF9.same s915).same s16).same (same_upd npo)) dF (fun _ => ⟨dh_name upd_same, no⟩) fun H17 s17 => ⟨_, rfl, rfl, _, rfl, iteFq (by rw [decide_eq_true rfl]; rfl) ⟨⟨_, rfl⟩, s16.trans ((same_upd npo).trans s17)⟩⟩⟩
        · rintro σ H16 ⟨⟨c9, rfl⟩, s16⟩
          have s916 := s915.trans s16
          have layf := lay_data F okF
          have layu := lay_data U okU
          have dpf := depth_data F
          have dpu := depth_data U
          refine ⟨vo, rfl, join_one (E := E) (hF9.same s916) okF (by omega) (by omega) fun H17 s17 => ⟨vo, rfl, ne_same ((hF9.same s916).same s17) ((hF9.same s916).same s17) layf (by omega) ⟨_, rfl, iteF ?_⟩⟩⟩
          have s917 := s916.trans s17
          refine ⟨vu, rfl, join_one (E := E) (hU.same s917) okU (by omega) (by omega) fun H18 s18 => ⟨vu, rfl, ne_same ((hU.same s917).same s18) ((hU.same s917).same s18) layu (by omega) ⟨_, rfl, iteF ?_⟩⟩⟩
          have s918 := s917.trans s18
          have sB := s09.trans (sameB_of (a := a) s918)
          exact ⟨⟨_, _, _, _, _, rfl⟩, sB, n9.same s918, ha9.same s918, hb9.same s918, sB _ _ tn et⟩
    · rintro σ H5 ⟨⟨c5, c6, c7, c8, c9, rfl⟩, _⟩
      exact q H5
end
end K7

set_option Elab.async false
set_option linter.all false
set_option maxRecDepth 100000
set_option maxHeartbeats 4000000
namespace K7
open PySem PySem.Spec PyProof.Rows L2 GX NdefX
/-! ### law, its end -/
theorem told_ex {zs : List Str} (nd : zs.Nodup) : ∃ ys, SX.Up ys ∧ ys.Perm zs := by
  refine ⟨zs.mergeSort fun x y => !decide (y.cps.toList < x.cps.toList), ?_, List.mergeSort_perm _ _⟩
  have := List.pairwise_mergeSort (le := fun x y : Str => !decide (y.cps.toList < x.cps.toList)) (fun a b c h1 h2 => ?_) (fun a b => ?_) zs
  · exact this.imp fun {x y} h => by simpa using h
  · have h1 : ¬ b.cps.toList < a.cps.toList := by simpa using h1
    have h2 : ¬ c.cps.toList < b.cps.toList := by simpa using h2
    have : ¬ c.cps.toList < a.cps.toList := List.not_lt.mpr (List.le_trans (List.not_lt.mp h1) (List.not_lt.mp h2))
    simpa using this
  · by_cases h : b.cps.toList < a.cps.toList
    · have := List.lt_asymm h
      simp [this]
    · simp [h]
def nmF (M : List Str) : List Fm := M.map Fm.name
theorem nms_nmF {w : Bool} {M : List Str} {x : Str} : x ∈ (Fm.joint w (nmF M)).nms ↔ x ∈ M := by
  rw [nms_joint]
  constructor
  · rintro ⟨f, m, h⟩
    obtain ⟨z, mz, rfl⟩ := List.mem_map.mp m
    have : x = z := by simpa [Fm.nms, Fm.lvs, nmOf] using h
    rw [this]; exact mz
  · intro m
    exact ⟨.name x, List.mem_map_of_mem m, by simp [Fm.nms, Fm.lvs, nmOf]⟩
theorem eds_nmF {w : Bool} {M : List Str} : (Fm.joint w (nmF M)).eds = [] := eds_joint fun f m => by
  obtain ⟨z, mz, rfl⟩ := List.mem_map.mp m
  rfl
theorem ok_nmF {w : Bool} {M : List Str} (l : 2 ≤ M.length) (h : ∀ z ∈ M, nameB z = true) : (Fm.joint w (nmF M)).ok = true := by
  simp only [Fm.ok, Bool.and_eq_true, decide_eq_true_eq]
  exact ⟨by unfold nmF; rw [List.length_map]; exact l, okL_all.mpr fun f m => by
    obtain ⟨z, mz, rfl⟩ := List.mem_map.mp m
    exact h z mz⟩
theorem dep_nmF {w : Bool} {M : List Str} : (Fm.joint w (nmF M)).dep ≤ 2 := by
  have : depL (nmF M) ≤ 1 := depL_le.mpr fun f m => by
    obtain ⟨z, mz, rfl⟩ := List.mem_map.mp m
    simp [Fm.dep]
  simp only [Fm.dep]; omega
theorem cnt_nmF : ∀ M : List Str, cntL (nmF M) = M.length
  | [] => rfl
  | z :: r => by show (Fm.name z).cnt + cntL (nmF r) = _; rw [cnt_nmF r]; simp only [Fm.cnt, List.length_cons]; omega
theorem any_nmF (ρ : Str → Bool) : ∀ M : List Str, evAny ρ (nmF M) = M.any ρ
  | [] => rfl
  | z :: r => by show ((Fm.name z).ev ρ || evAny ρ (nmF r)) = _; rw [any_nmF ρ r]; rfl
theorem hangs_nmF {M : List Str} {z : Str} (m : z ∈ M) : Hangs (.joint true (nmF M)) z := by
  refine ⟨fun _ => false, ?_⟩
  show evAny _ (nmF M) ≠ evAny _ (nmF M)
  rw [any_nmF, any_nmF]
  have e1 : M.any (setB (fun _ => false) z false) = false := List.any_eq_false.mpr fun x _ => by unfold setB; split <;> simp
  have e2 : M.any (setB (fun _ => false) z true) = true := List.any_eq_true.mpr ⟨z, m, by unfold setB; rw [if_pos rfl]⟩
  rw [e1, e2]; decide
theorem ne_at {p : List Str} (nd : p.Nodup) {i j : Nat} {x y : Str} (hij : i ≠ j) (h1 : p[i]? = some x) (h2 : p[j]? = some y) : x ≠ y := by
  rintro rfl
  exact hij ((List.getElem?_inj (List.getElem?_eq_some_iff.mp h1).1 nd).mp (h1.trans h2.symm))
theorem many_lay : (PyData.tuple [.str "many", .int 10]).canLay0 = true ∧ (PyData.tuple [.str "many", .int 10]).depth ≤ 150 := by decide +kernel
section
variable {P : Program} {w : World} {K : PySem.W.Frag} {mg : Str → Option Value} {base : Heap}
theorem la_3 (D : Pr P K mg) (f : Addr) (cdv : Value) (A : Around) (outer : List Env) (s : Shared) (H0 : Hp) (Q : VK) (E : XK) (hr : Room 89 (A.deeper (envOfC "law" (defScope s_law) s.heap.objs.size f cdv))) :
    ∃ t, PSs (cxOf (CX P w) P w K mg base n_law "law" (defScope s_law) f cdv A outer s H0 E) ((defBody s_law).drop 9) t ∧ ∀ (a N NP : Addr) (p : List Str) (c3 c4 c5 c6 c7 c8 : Option V) (H : Hp), NumsAt H N → H NP = some (.lst (txs p)) → PoolOk 11 p → (∀ H1, Q (.bl true) H1) →
      t { nx := fun _ H' => Q V.non H', rt := Q } [some (.ref a), some (.ref N), some (.ref NP), c3, c4, c5, c6, c7, c8, none, none] H := by
  have G_hangs_on : FnOk P w K mg base (CX P w) 43 D.hangs_on.f D.hangs_on.fd ["formula", "name"] (spHangs D.BadFormula.C D.BadName.C D.TooMany.C) := ok_hangs D
  have G__law_word : FnOk P w K mg base (CX P w) 44 D._law_word.f D._law_word.fd ["turn", "formula", "second"] (spWord D.BadFormula.C D.BadName.C D.TooMany.C) := ok_word D
  have G__law_depths_right : FnOk P w K mg base (CX P w) 45 D._law_depths_right.f D._law_depths_right.fd ["numbers", "name", "other"] spDepths := ok_depths D
  refine ⟨_, (pss_cons (ps_set (i := 9) sc_law.nd rfl (.inl rfl) (pe_tup (pa_cons pe_str (pa_cons (pe_callTy call_tuple_of (by rfl) D.B.tuple (by decide +kernel) (pa_cons (pe_lc (own := [("name", 6)]) (g := (gName 6)) (tt := tYes) rfl sc_law.nd (pi_list (pe_slice sl_list (pv 2) po_none (po_some pe_int))) (blkOk_by (own := [("name", 6)]) (N := n_law) (sc := defScope s_law) (by decide +kernel)) (fun _ _ _ _ _ => (pg_name (i := 6) sc_law.nd rfl (.inl rfl))) (fun _ _ _ _ _ => pts_nil) (fun _ _ _ _ _ => (pe_tup (pa_cons pe_str (pa_cons (pv 6) pa_nil))))) pa_nil)) pa_nil))))
      (pss_cons (ps_if (PW.pt (pw_or (pt_cmpR op_isnot_bl (pe_call G_hangs_on (hr.mono (by omega)) (by rfl) D.hangs_on.g D.hangs_on.F.kp D.hangs_on.b .nil (passes_call (takes_of rfl rfl rfl rfl) (fun _ _ _ _ h => h)) (pa_cons (pv 9) (pa_cons (pe_ix (r := rIxL K) ix_list (pv 2) pe_int (fun _ _ => rfl)) pa_nil))) pe_bl (nomark _)) (pw_or1 (pt_cmpR op_isnot_bl (pe_call G_hangs_on (hr.mono (by omega)) (by rfl) D.hangs_on.g D.hangs_on.F.kp D.hangs_on.b .nil (passes_call (takes_of rfl rfl rfl rfl) (fun _ _ _ _ h => h)) (pa_cons (pv 9) (pa_cons (pe_ix (r := rIxL K) ix_list (pv 2) pe_int (fun _ _ => rfl)) pa_nil))) pe_bl (nomark _))))) (pss_one (ps_ret pe_bl)) pss_nil)
      (pss_cons (ps_set (i := 10) sc_law.nd rfl (.inl rfl) (pe_tup (pa_cons pe_str (pa_cons (pe_tup (pa_cons (pv 9) (pa_cons (pe_tup (pa_cons pe_str (pa_cons (pe_ix (r := rIxL K) ix_list (pv 2) pe_int (fun _ _ => rfl)) pa_nil))) pa_nil))) pa_nil))))
      (pss_cons (ps_if (PW.pt (pw_or (pt_cmpR (RG.op_neDD hr) (pe_call G__law_word (hr.mono (by omega)) (by rfl) D._law_word.g D._law_word.F.kp D._law_word.b .nil (passes_call (takes_of rfl rfl rfl rfl) (fun _ _ _ _ h => h)) (pa_cons pe_int (pa_cons (pv 10) (pa_cons (pe_ix (r := rIxL K) ix_list (pv 2) pe_int (fun _ _ => rfl)) pa_nil)))) (pe_tup (pa_cons pe_str (pa_cons pe_int pa_nil))) (nomark _)) (pw_or1 (pt_cmpR (RG.op_neDD hr) (pe_call G__law_word (hr.mono (by omega)) (by rfl) D._law_word.g D._law_word.F.kp D._law_word.b .nil (passes_call (takes_of rfl rfl rfl rfl) (fun _ _ _ _ h => h)) (pa_cons pe_int (pa_cons (pv 10) (pa_cons (pe_op op_add_str (pe_ix (r := rIxL K) ix_list (pv 2) pe_int (fun _ _ => rfl)) pe_str) pa_nil)))) (pe_tup (pa_cons pe_str (pa_cons pe_int pa_nil))) (nomark _))))) (pss_one (ps_ret pe_bl)) pss_nil)
      (pss_cons (ps_if (pt_cmpR (RG.op_neDD hr) (pe_call G__law_word (hr.mono (by omega)) (by rfl) D._law_word.g D._law_word.F.kp D._law_word.b .nil (passes_call (takes_of rfl rfl rfl rfl) (fun _ _ _ _ h => h)) (pa_cons pe_int (pa_cons (pv 10) (pa_cons pe_str pa_nil)))) (pe_tup (pa_cons pe_str (pa_cons pe_str pa_nil))) (nomark _)) (pss_one (ps_ret pe_bl)) pss_nil)
      (pss_one (ps_ret (pe_call G__law_depths_right (hr.mono (by omega)) (by rfl) D._law_depths_right.g D._law_depths_right.F.kp D._law_depths_right.b .nil (passes_call (takes_of rfl rfl rfl rfl) (fun _ _ _ _ h => h)) (pa_cons (pv 1) (pa_cons (pe_ix (r := rIxL K) ix_list (pv 2) pe_int (fun _ _ => rfl)) (pa_cons (pe_ix (r := rIxL K) ix_list (pv 2) pe_int (fun _ _ => rfl)) pa_nil))))))))))), ?_⟩
  intro a N NP p c3 c4 c5 c6 c7 c8 H nn eNP pk q
  have es : sizeLine = 16777216 := sizeLine_eq
  have two : (2 : Nat) ≤ sizeLine := by decide
  have hl := pk.1
  have nms := pk.names
  have nd := pk.nodup
  have at_ : ∀ j < 11, ∃ z, p[j]? = some z ∧ nameB z = true ∧ nameB (z ++ Str.ofString "z") = true ∧ atI (txs p) ((j : Nat) : Int) = some (.str z) := fun j hj => by
    have e : p[j]? = some p[j] := List.getElem?_eq_getElem (by omega)
    exact ⟨_, e, nms _ (List.mem_of_getElem? e), (pk.2 j _ e).nameZ hj, atI_nat (by unfold txs; rw [List.getElem?_map, e]; rfl)⟩
  obtain ⟨z0, e0, n0, m0, a0⟩ := at_ 0 (by decide)
  obtain ⟨z1, e1, n1, _, a1⟩ := at_ 1 (by decide)
  obtain ⟨z9, e9, n9, _, a9⟩ := at_ 9 (by decide)
  obtain ⟨z10, e10, n10, _, a10⟩ := at_ 10 (by decide)
  obtain ⟨M, hM⟩ : ∃ M, M = p.take 10 := ⟨_, rfl⟩
  have lM : M.length = 10 := by rw [hM, List.length_take, hl]; rfl
  have nM : ∀ z ∈ M, nameB z = true := fun z m => nms z (List.mem_of_mem_take (hM ▸ m))
  have ndM : M.Nodup := hM ▸ nd.sublist (List.take_sublist _ _)
  have m9 : z9 ∈ M := by rw [hM]; exact List.mem_of_getElem? (i := 9) (by rw [List.getElem?_take, if_pos (by decide)]; exact e9)
  have m10 : z10 ∉ M := fun m => by
    rw [hM] at m
    obtain ⟨i, hi, e⟩ := List.getElem_of_mem m
    have e2 : p[i]? = some z10 := by
      rw [List.getElem_take] at e
      exact List.getElem?_eq_some_iff.mpr ⟨_, e⟩
    have := (List.getElem?_inj (List.getElem?_eq_some_iff.mp e2).1 nd).mp (e2.trans e10.symm)
    rw [List.length_take, hl] at hi
    omega
  refine ⟨.ref NP, rfl, 10, rfl, NP, _, rfl, sqL eNP, fun PL nPL => ?_⟩
  rw [show cutV (txs p) none (some 10) = txs M from (cut_to (txs p) 10).trans (by rw [hM]; unfold txs; rw [List.map_take])]
  have sL := same_upd nPL (o := .lst (txs M))
  have eL : upd H PL (.lst (txs M)) PL = some (.lst (txs M)) := upd_same
  generalize upd H PL (.lst (txs M)) = H1 at sL eL
  refine ⟨PL, rfl, ⟨_, sqL eL⟩, lcLst (fun i H x => ∃ z, M[i]? = some z ∧ Dh H x (Fm.name z).data) (fun i H H' x s ⟨z, e, h⟩ => ⟨z, e, h.same s⟩) (fun D i H x us ys e _ ⟨z, e2, h⟩ => ⟨z, e2, h.tups (fun b zs z => by rw [upd_ne (fun w => by rw [w, e] at z; cases z)]; exact z) _ _ (noL_data _)⟩) eL (by rw [txs_len]; omega) (fun Dl i y H5 Qk Qn hy s5 nDl eDl hk => ⟨rfl, iteT (B := Qn H5) ?_⟩) (fun Dl H5 ts nDl s5 eDl pu => ?_)⟩
  · obtain ⟨z, ez, rfl⟩ := txs_get hy
    exact ⟨_, rfl, two, fun tp np => hk _ _ ⟨z, ez, .tup upd_same (.cons (.str _) (.cons (.str z) .nil))⟩ (same_upd np)⟩
  have dts : DhAll H5 ts ((nmF M).map Fm.data) := by
    have := dhAll_get ts (nmF M) (H := H5) (by rw [pu.length, List.length_range, txs_len]; unfold nmF; rw [List.length_map]) fun i x f h1 h2 => by
      obtain ⟨j, ej, z, ez, h⟩ := paired_get pu h1
      obtain rfl : i = j := by
        obtain ⟨hj, ej⟩ := List.getElem?_eq_some_iff.mp ej
        rw [List.getElem_range] at ej
        exact ej
      unfold nmF at h2
      rw [List.getElem?_map, ez] at h2
      cases h2
      exact h
    rw [dataL_map] at this
    exact this
  refine ⟨Dl, ts, rfl, .inl ⟨sqL eDl, fun t1 nt1 => ⟨two, fun t2 nt2 => ?_⟩⟩⟩
  have u1 := same_upd nt1 (o := .tup ts)
  have u2 := same_upd nt2 (o := .tup [.str "or", .ref t1])
  have hT : Dh (upd (upd H5 t1 (.tup ts)) t2 (.tup [.str "or", .ref t1])) (.ref t2) (Fm.joint true (nmF M)).data := dh_joint (w := true) upd_same (u2 _ _ upd_same) (DhAll.same (u1.trans u2) _ _ dts)
  have s6 := sL.trans (s5.trans (u1.trans u2))
  generalize upd (upd H5 t1 (.tup ts)) t2 (.tup [.str "or", .ref t1]) = H6 at hT s6
  have okT : (Fm.joint true (nmF M)).ok = true := ok_nmF (by omega) nM
  have dpT : (Fm.joint true (nmF M)).dep ≤ 2 := dep_nmF
  have cnT : (Fm.joint true (nmF M)).cnt ≤ 11 := by simp only [Fm.cnt, cnt_nmF, lM]; omega
  have edT : (Fm.joint true (nmF M)).eds = [] := eds_nmF
  obtain ⟨ys, up, pm⟩ := told_ex ndM
  have tlT : Told ys (Fm.joint true (nmF M)).nms := ⟨up, pm.nodup_iff.mpr ndM, fun z => by rw [pm.mem_iff, nms_nmF]⟩
  have lys : ys.length = 10 := pm.length_eq.trans lM
  have fmT := form_data _ okT
  rw [decide_eq_true (by omega)] at fmT
  have hangs : ∀ (z : Str) (H' : Hp) (Q : VK), Same H6 H' → nameB z = true → (∀ b H1, Same H' H1 → (b = true ↔ Hangs (.joint true (nmF M)) z) → Q (.bl b) H1) → spHangs D.BadFormula.C D.BadName.C D.TooMany.C [.ref t2, .str z] H' Q E := fun z H' Q s' nz q =>
    ⟨.ref t2, .str z, _, rfl, arg_data (hT.same s') okT (by omega), fun e => (by rw [fmT] at e; cases e), fun _ => ⟨_, rfl, by omega, by omega, fun e => absurd edT e, fun _ => ⟨.str z, .str z, name_strD nz, .inr ⟨z, ys, rfl, rfl, nz, tlT, .inr ⟨by omega, q⟩⟩⟩⟩⟩
  refine ⟨.ref t2, rfl, .ref NP, rfl, NP, _, 9, .str z9, rfl, rfl, sqL (s6 _ _ eNP), a9, hangs z9 _ _ (Same.refl _) n9 fun b H7 s7 hb => ⟨b, true, rfl, rfl, _, rfl, ?_⟩⟩
  have b9 : b = true := hb.mpr (hangs_nmF m9)
  subst b9
  refine iteFq (by decide) ?_
  refine ⟨.ref t2, rfl, .ref NP, rfl, NP, _, 10, .str z10, rfl, rfl, sqL (s7 _ _ (s6 _ _ eNP)), a10, hangs z10 _ _ s7 n10 fun b H8 s8 hb => ⟨b, false, rfl, rfl, _, rfl, ?_⟩⟩
  have b10 : b = false := by
    cases b with
    | false => rfl
    | true => exact absurd (hb.mp rfl) (not_hangs fun m => m10 (nms_nmF.mp m))
  subst b10
  refine iteFq (by decide) ?_
  have s68 := s7.trans s8
  have s08 := s6.trans s68
  refine ⟨.ref t2, rfl, .ref NP, rfl, NP, _, 10, .str z10, rfl, rfl, sqL (s08 _ _ eNP), a10, two, fun p1 np1 => ⟨two, fun p2 np2 => ⟨two, fun p3 np3 => ?_⟩⟩⟩
  have v1 := same_upd np1 (o := .tup [.str "name", .str z10])
  have v2 := same_upd np2 (o := .tup [.ref t2, .ref p1])
  have v3 := same_upd np3 (o := .tup [.str "and", .ref p2])
  have hE : Dh (upd (upd (upd H8 p1 (.tup [.str "name", .str z10])) p2 (.tup [.ref t2, .ref p1])) p3 (.tup [.str "and", .ref p2])) (.ref p3) (Fm.joint false [.joint true (nmF M), .name z10]).data :=
    dh_joint (w := false) upd_same (v3 _ _ upd_same) (.cons (hT.same (s68.trans (v1.trans (v2.trans v3)))) (.cons (dh_name (v3 _ _ (v2 _ _ upd_same))) .nil))
  have s09 := s08.trans (v1.trans (v2.trans v3))
  generalize upd (upd (upd H8 p1 (.tup [.str "name", .str z10])) p2 (.tup [.ref t2, .ref p1])) p3 (.tup [.str "and", .ref p2]) = H9 at hE s09
  have okE : (Fm.joint false [.joint true (nmF M), .name z10]).ok = true := by
    simp only [Fm.ok, okL, n10, Bool.and_true, Bool.and_eq_true, decide_eq_true_eq]
    simp only [Fm.ok, Bool.and_eq_true, decide_eq_true_eq] at okT
    exact ⟨by simp, okT⟩
  have dpE : (Fm.joint false [.joint true (nmF M), .name z10]).dep ≤ 40 := by
    simp only [Fm.dep, depL] at dpT ⊢; omega
  have cnE : (Fm.joint false [.joint true (nmF M), .name z10]).cnt ≤ 100 := by
    simp only [Fm.cnt, cntL] at cnT ⊢; omega
  have edE : (Fm.joint false [.joint true (nmF M), .name z10]).eds = [] := eds_joint fun g m => by
    simp only [List.mem_cons, List.not_mem_nil, or_false] at m
    rcases m with rfl | rfl
    · exact edT
    · rfl
  have ndE : (z10 :: M).Nodup := List.nodup_cons.mpr ⟨m10, ndM⟩
  obtain ⟨zs, up2, pm2⟩ := told_ex ndE
  have tlE : Told zs (Fm.joint false [.joint true (nmF M), .name z10]).nms := ⟨up2, pm2.nodup_iff.mpr ndE, fun z => by
    rw [pm2.mem_iff, nms_joint, List.mem_cons]
    constructor
    · rintro (rfl | m)
      · exact ⟨_, List.mem_cons_of_mem _ List.mem_cons_self, by simp [Fm.nms, Fm.lvs, nmOf]⟩
      · exact ⟨_, List.mem_cons_self, nms_nmF.mpr m⟩
    · rintro ⟨g, m, h⟩
      simp only [List.mem_cons, List.not_mem_nil, or_false] at m
      rcases m with rfl | rfl
      · exact .inr (nms_nmF.mp h)
      · exact .inl (by simpa [Fm.nms, Fm.lvs, nmOf] using h)⟩
  have lzs : zs.length = 11 := pm2.length_eq.trans (by rw [List.length_cons, lM])
  have fmE := form_data _ okE
  rw [decide_eq_true dpE] at fmE
  have word : ∀ (v2 : V) (dW : PyData) (H' : Hp) (Q : VK), Same H9 H' → HangAsk D.BadName.C D.TooMany.C (.joint false [.joint true (nmF M), .name z10]) v2 H' (WQ H' dW) (WE D.BadFormula.C D.BadName.C D.TooMany.C H' dW) → (∀ u H1, Same H' H1 → Dh H1 u dW → Q u H1) → spWord D.BadFormula.C D.BadName.C D.TooMany.C [.int (2 : Nat), .ref p3, v2] H' Q E := fun v2 dW H' Q s' ask q =>
    ⟨2, .ref p3, v2, dW, rfl, fun e => absurd e (by omega), fun e => absurd e (by omega), fun _ => ⟨.ref p3, v2, _, rfl, arg_data (hE.same s') okE (by omega), fun e => (by rw [fmE] at e; cases e), fun _ => ⟨_, rfl, by omega, dpE, fun e => absurd edE e, fun _ => ask⟩⟩, fun e => absurd e (by omega), fun e => absurd e (by omega), fun e => absurd e (by omega), q⟩
  have many : ∀ (z : Str) (H' : Hp), nameB z = true → HangAsk D.BadName.C D.TooMany.C (.joint false [.joint true (nmF M), .name z10]) (.str z) H' (WQ H' (.tuple [.str "many", .int 10])) (WE D.BadFormula.C D.BadName.C D.TooMany.C H' (.tuple [.str "many", .int 10])) := fun z H' nz =>
    ⟨.str z, .str z, name_strD nz, .inr ⟨z, zs, rfl, rfl, nz, tlE, .inl ⟨by omega, fun d H' s e => ⟨s, .inr (.inr ⟨rfl, d, rfl, e, rfl⟩)⟩⟩⟩⟩
  refine ⟨.ref p3, rfl, .ref NP, rfl, NP, _, 0, .str z0, rfl, rfl, sqL (s09 _ _ eNP), a0, word (.str z0) _ _ _ (Same.refl _) (many z0 _ n0) fun u H10 s10 hu => ⟨two, fun q1 nq1 => ne_same (hu.same (same_upd nq1)) (.tup upd_same (.cons (.str _) (.cons (.int _) .nil))) many_lay.1 many_lay.2 ⟨_, rfl, iteF ?_⟩⟩⟩
  have s11 := s10.trans (same_upd nq1 (o := .tup [.str "many", .int 10]))
  generalize upd H10 q1 (.tup [.str "many", .int 10]) = H11 at s11
  have l0 : z0.length ≤ 40 := (nameS_of n0).2
  refine ⟨.ref p3, rfl, .ref NP, rfl, NP, _, 0, .str z0, rfl, rfl, sqL (s11 _ _ (s09 _ _ eNP)), a0, _, _, rfl, rfl, by rw [show (Str.ofString "z").length = 1 by decide]; omega, word (.str (z0 ++ Str.ofString "z")) _ _ _ s11 (many _ _ m0) fun u H12 s12 hu => ⟨two, fun q2 nq2 => ne_same (hu.same (same_upd nq2)) (.tup upd_same (.cons (.str _) (.cons (.int _) .nil))) many_lay.1 many_lay.2 ⟨_, rfl, iteF ?_⟩⟩⟩
  have s13 := s11.trans (s12.trans (same_upd nq2 (o := .tup [.str "many", .int 10])))
  generalize upd H12 q2 (.tup [.str "many", .int 10]) = H13 at s13
  obtain ⟨dw, w1, w2, w3, w4, w5⟩ := wrongs n0 (w := .str "A") (by simp)
  have lay := told_lay w4 w5
  refine ⟨.ref p3, rfl, word (.str "A") (.tuple [.str "name", dw]) _ _ s13 ⟨dw, w1 _, w3, .inl ⟨w2, fun d H' s e => ⟨s, .inr (.inl ⟨rfl, d, .str "A", dw, rfl, e, w1 _, rfl⟩)⟩⟩⟩ fun u H14 s14 hu => ⟨two, fun q3 nq3 => ne_same (hu.same (same_upd nq3)) (.tup upd_same (.cons (.str _) (.cons (w1 _) .nil))) lay.1 lay.2 ⟨_, rfl, iteF ?_⟩⟩⟩
  have s15 := s09.trans (s13.trans (s14.trans (same_upd nq3 (o := .tup [.str "name", .str "A"]))))
  generalize upd H14 q3 (.tup [.str "name", .str "A"]) = H15 at s15
  exact ⟨.ref N, rfl, .ref NP, rfl, NP, _, 0, .str z0, rfl, rfl, sqL (s15 _ _ eNP), a0, .ref NP, rfl, NP, _, 1, .str z1, rfl, rfl, sqL (s15 _ _ eNP), a1, N, z0, z1, rfl, nn.same s15, n0, n1, fun H16 => q H16⟩
end
end K7

set_option Elab.async false
set_option linter.all false
set_option maxRecDepth 100000
set_option maxHeartbeats 4000000
namespace K7
open PySem PySem.Spec PyProof.Rows L2 GX NdefX
/-! ### law -/
def spLaw (K : PySem.W.Frag) : Sp := fun vs H Q _ => ∃ (a : Addr) (ns : List Int), vs = [.ref a] ∧ SqL K H a (ns.map V.int) ∧ ns.length ≤ 63 ∧ ∀ H', Q (.bl true) H'
theorem nodup_le : ∀ (ys zs : List Str), ys.Nodup → (∀ y ∈ ys, y ∈ zs) → ys.length ≤ zs.length
  | [], _, _, _ => Nat.zero_le _
  | y :: r, zs, nd, h => by
    obtain ⟨n1, n2⟩ := List.nodup_cons.mp nd
    have m := h y List.mem_cons_self
    have := nodup_le r (zs.erase y) n2 fun x mx => (List.mem_erase_of_ne (a := x) (b := y) (fun e => n1 (by rw [← e]; exact mx))).mpr (h x (List.mem_cons_of_mem _ mx))
    rw [List.length_erase_of_mem m] at this
    have : 0 < zs.length := List.length_pos_of_mem m
    rw [List.length_cons]; omega
section
variable {P : Program} {w : World} {K : PySem.W.Frag} {mg : Str → Option Value} {base : Heap}
theorem la_2 (D : Pr P K mg) (f : Addr) (cdv : Value) (A : Around) (outer : List Env) (s : Shared) (H0 : Hp) (Q : VK) (E : XK) (hr : Room 89 (A.deeper (envOfC "law" (defScope s_law) s.heap.objs.size f cdv))) :
    ∃ t, PSs (cxOf (CX P w) P w K mg base n_law "law" (defScope s_law) f cdv A outer s H0 E) ((defBody s_law).drop 7) t ∧ ∀ (a N NP : Addr) (v : V) (F : Fm) (p : List Str) (c4 c5 c6 c7 : Option V) (H : Hp), NumsAt H N → H NP = some (.lst (txs p)) → NP ≠ N → PoolOk 11 p → Dh H v F.data → F.ok = true → F.dep ≤ 8 → F.cnt ≤ 17 → (∀ H1, Q (.bl true) H1) →
      t { nx := fun _ H' => Q V.non H', rt := Q } [some (.ref a), some (.ref N), some (.ref NP), some v, c4, c5, c6, c7, none, none, none] H := by
  have G__law_draw : FnOk P w K mg base CX0 1 D._law_draw.f D._law_draw.fd ["numbers", "many"] spDraw := ok_drawD D
  have G__law_formula : FnOk P w K mg base CX0 3 D._law_formula.f D._law_formula.fd ["numbers", "names", "edges"] (spLeaf 0 8 17) := ok_formula D
  have G__law_joint_right : FnOk P w K mg base (CX P w) 8 D._law_joint_right.f D._law_joint_right.fd ["parts"] spJoint := ok_joint D
  have G__law_refused_right : FnOk P w K mg base (CX P w) 46 D._law_refused_right.f D._law_refused_right.fd ["name", "other", "leaf"] spRefused := ok_refused D
  obtain ⟨tT, hT, rT⟩ := la_3 (w := w) (base := base) D f cdv A outer s H0 Q E hr
  refine ⟨_, (pss_cons (ps_set (i := 8) sc_law.nd rfl (.inl rfl) (pe_lst (pa_cons (pv 3) (pa_cons (pe_call G__law_formula (hr.mono (by omega)) (by rfl) D._law_formula.g D._law_formula.F.kp D._law_formula.b .nil pass0 (pa_cons (pv 1) (pa_cons (pv 2) (pa_cons pe_bl pa_nil)))) (pa_cons (pe_tup (pa_cons pe_str (pa_cons (pe_call G__law_draw (hr.mono (by omega)) (by rfl) D._law_draw.g D._law_draw.F.kp D._law_draw.b .nil pass0 (pa_cons (pv 1) (pa_cons pe_int pa_nil))) pa_nil))) pa_nil)))))
      (pss_cons (ps_if (PW.pt (pw_or (pt_not (pt_val (pe_call G__law_joint_right (hr.mono (by omega)) (by rfl) D._law_joint_right.g D._law_joint_right.F.kp D._law_joint_right.b .nil (passes_call (takes_of rfl rfl rfl rfl) (fun _ _ _ _ h => h)) (pa_cons (pv 8) pa_nil)))) (pw_or1 (pt_not (pt_val (pe_call G__law_refused_right (hr.mono (by omega)) (by rfl) D._law_refused_right.g D._law_refused_right.F.kp D._law_refused_right.b .nil (passes_call (takes_of rfl rfl rfl rfl) (fun _ _ _ _ h => h)) (pa_cons (pe_ix (r := rIxL K) ix_list (pv 2) pe_int (fun _ _ => rfl)) (pa_cons (pe_ix (r := rIxL K) ix_list (pv 2) pe_int (fun _ _ => rfl)) (pa_cons (pe_tup (pa_cons pe_str (pa_cons (pe_ix (r := rIxL K) ix_list (pv 2) pe_int (fun _ _ => rfl)) pa_nil))) pa_nil))))))))) (pss_one (ps_ret pe_bl)) pss_nil)
      hT)), ?_⟩
  intro a N NP v F p c4 c5 c6 c7 H nn eNP nNP pk hF okF dpF cnF q
  have es : sizeLine = 16777216 := sizeLine_eq
  have two : (2 : Nat) ≤ sizeLine := by decide
  have hl := pk.1
  have nms := pk.names
  have nd := pk.nodup
  have at_ : ∀ j < 11, ∃ z, p[j]? = some z ∧ nameB z = true ∧ atI (txs p) ((j : Nat) : Int) = some (.str z) := fun j hj => by
    have e : p[j]? = some p[j] := List.getElem?_eq_getElem (by omega)
    exact ⟨_, e, nms _ (List.mem_of_getElem? e), atI_nat (by unfold txs; rw [List.getElem?_map, e]; rfl)⟩
  obtain ⟨z8, e8, n8, a8⟩ := at_ 8 (by decide)
  obtain ⟨z9, e9, n9, a9⟩ := at_ 9 (by decide)
  obtain ⟨z10, e10, n10, a10⟩ := at_ 10 (by decide)
  refine ⟨v, rfl, .ref N, rfl, .ref NP, rfl, N, NP, p, true, rfl, eNP, nNP, by omega, nms, nn, fun u1 H1 F1 s1 n1 hu g1 => ?_⟩
  have hF1 := keepF s1 nn hF
  refine ⟨.ref N, rfl, N, 2, rfl, by decide, n1, fun H2 r2 hr2 s2 n2 => ⟨two, fun pb npb => ⟨by show 3 ≤ sizeLine; omega, fun pp npp => ?_⟩⟩⟩
  have hF2 := keepF s2 n1 hF1
  have hu2 := keepF s2 n1 hu
  have sb := same_upd npb (o := .tup [.str "bit", .int (r2 : Nat)])
  have hb : Dh (upd H2 pb (.tup [.str "bit", .int (r2 : Nat)])) (.ref pb) (Fm.bit (decide (r2 = 1))).data := by
    obtain rfl | rfl : r2 = 0 ∨ r2 = 1 := by omega
    · exact .tup upd_same (.cons (.str _) (.cons (.int _) .nil))
    · exact .tup upd_same (.cons (.str _) (.cons (.int _) .nil))
  have sp := same_upd npp (o := .lst [v, u1, .ref pb])
  have parts : Parts (upd (upd H2 pb (.tup [.str "bit", .int (r2 : Nat)])) pp (.lst [v, u1, .ref pb])) pp v u1 (.ref pb) F F1 (.bit (decide (r2 = 1))) :=
    ⟨upd_same, hF2.same (sb.trans sp), hu2.same (sb.trans sp), hb.same sp, ⟨okF, g1.ok, rfl⟩, ⟨by omega, by have := g1.dep; omega, by simp [Fm.dep]⟩, ⟨by omega, by have := g1.cnt; omega, by simp [Fm.cnt]⟩⟩
  have s3 := s1.trans (s2.trans (sameB_of (a := N) (sb.trans sp)))
  have n3 := n2.same (sb.trans sp)
  generalize upd (upd H2 pb (.tup [.str "bit", .int (r2 : Nat)])) pp (.lst [v, u1, .ref pb]) = H3 at parts s3 n3
  have eNP3 := s3 _ _ nNP eNP
  refine ⟨.ref pp, rfl, pp, v, u1, .ref pb, F, F1, _, rfl, parts, fun H4 s4 => ⟨true, rfl, iteF ?_⟩⟩
  have eNP4 := s4 _ _ eNP3
  refine ⟨.ref NP, rfl, NP, _, 9, .str z9, rfl, rfl, sqL eNP4, a9, .ref NP, rfl, NP, _, 10, .str z10, rfl, rfl, sqL eNP4, a10, .ref NP, rfl, NP, _, 8, .str z8, rfl, rfl, sqL eNP4, a8, two, fun p8 np8 => ?_⟩
  have s5 := same_upd np8 (o := .tup [.str "name", .str z8])
  refine ⟨z9, z10, z8, .ref p8, rfl, ⟨dh_name upd_same, n8, n9, n10, ne_at nd (by decide) e9 e10⟩, fun H5 s6 => ⟨true, rfl, iteF ?_⟩⟩
  have s36 := s4.trans (s5.trans s6)
  exact rT a N NP p _ _ _ _ _ _ H5 (n3.same s36) (s36 _ _ eNP3) pk q
theorem ok_law {f : Addr} {fd : FuncData} (D : Pr P K mg) (F : Fun K "law" "law" s_law f fd) : RG.FnG P w K mg base (CX P w) 90 f fd ["script"] (spLaw K) := by
  have G__law_numbers : FnOk P w K mg base CX0 1 D._law_numbers.f D._law_numbers.fd ["script"] (spLNums K) := ok_numsD D
  have G__law_draw : FnOk P w K mg base CX0 1 D._law_draw.f D._law_draw.fd ["numbers", "many"] spDraw := ok_drawD D
  have G__law_pool : FnOk P w K mg base CX0 2 D._law_pool.f D._law_pool.fd ["numbers", "total"] spPool := ok_pool D
  have G__law_formula : FnOk P w K mg base CX0 3 D._law_formula.f D._law_formula.fd ["numbers", "names", "edges"] (spLeaf 0 8 17) := ok_formula D
  have G__law_names : FnOk P w K mg base CX0 1 D._law_names.f D._law_names.fd ["formula"] spLNames := ok_lnames D
  have G__law_bits_right : RG.FnG P w K mg base (CX P w) 45 D._law_bits_right.f D._law_bits_right.fd ["formula", "names", "others"] spBits := ok_bits D
  have G__law_closed_right : RG.FnG P w K mg base (CX P w) 46 D._law_closed_right.f D._law_closed_right.fd ["x", "y"] spClosed := ok_closed D
  have G__law_lacking_right : FnOk P w K mg base (CX P w) 46 D._law_lacking_right.f D._law_lacking_right.fd ["numbers", "formula", "names", "others"] spLacking := ok_lacking D
  refine RG.fnG_of F sc_law (fun vs H Q E h => ?_) (fun cdv A outer s H vs Q E guard hr h => ?_)
  · obtain ⟨a, ns, rfl, _⟩ := h
    rfl
  · obtain ⟨a, ns, rfl, hq, hl, q⟩ := h
    have es : sizeLine = 16777216 := sizeLine_eq
    have two : (2 : Nat) ≤ sizeLine := by decide
    obtain ⟨tT, hT, rT⟩ := la_2 (w := w) (base := base) D f cdv A outer s H Q E hr
    refine ⟨_, (pss_cons (ps_set (i := 1) sc_law.nd rfl (.inl rfl) (pe_call G__law_numbers (hr.mono (by omega)) (by rfl) D._law_numbers.g D._law_numbers.F.kp D._law_numbers.b .nil pass0 (pa_cons (pv 0) pa_nil)))
      (pss_cons (ps_set (i := 2) sc_law.nd rfl (.inl rfl) (pe_call G__law_pool (hr.mono (by omega)) (by rfl) D._law_pool.g D._law_pool.F.kp D._law_pool.b .nil pass0 (pa_cons (pv 1) (pa_cons pe_int pa_nil))))
      (pss_cons (ps_set (i := 3) sc_law.nd rfl (.inl rfl) (pe_call G__law_formula (hr.mono (by omega)) (by rfl) D._law_formula.g D._law_formula.F.kp D._law_formula.b .nil pass0 (pa_cons (pv 1) (pa_cons (pe_slice sl_list (pv 2) po_none (po_some (pe_op (r := rAddN) op_AddN pe_int (pe_call G__law_draw (hr.mono (by omega)) (by rfl) D._law_draw.g D._law_draw.F.kp D._law_draw.b .nil pass0 (pa_cons (pv 1) (pa_cons pe_int pa_nil)))))) (pa_cons pe_bl pa_nil)))))
      (pss_cons (ps_set (i := 4) sc_law.nd rfl (.inr rfl) (pe_call G__law_names (hr.mono (by omega)) (by rfl) D._law_names.g D._law_names.F.kp D._law_names.b .nil pass0 (pa_cons (pv 3) pa_nil)))
      (pss_cons (ps_setLc (i := 5) (own := [("name", 6)]) (g := (gName 6)) rfl sc_law.nd rfl rfl (sw_true rfl rfl rfl (by decide +kernel)) (pi_list (pe_slice sl_list (pv 2) po_none (po_some pe_int))) (blkOk_by (own := [("name", 6)]) (N := n_law) (sc := defScope s_law) (by decide +kernel)) (fun _ _ _ _ _ => (pg_name (i := 6) sc_law.nd rfl (.inl rfl))) (fun _ _ _ _ _ => (pts_one (pt_cmpR (r := rIn K true) op_notIn_seq (pv 6) (pv 4) (by rfl)))) (fun _ _ _ _ _ => (pv 6)))
      (pss_cons (ps_for (by passes_own) rfl (pi_range1 (by rfl) D.B.range (pa_cons pe_int pa_nil)) (pg_name (i := 7) sc_law.nd rfl (.inl rfl)) (pss_one (ps_if (pt_not (pt_val (RG.peG_call G__law_bits_right guard (hr.mono (by omega)) (by rfl) D._law_bits_right.g D._law_bits_right.F.kp D._law_bits_right.b .nil (passes_call (takes_of rfl rfl rfl rfl) (fun _ _ _ _ h => h)) (pa_cons (pv 3) (pa_cons (pv 4) (pa_cons (pv 5) pa_nil)))))) (pss_one (ps_ret pe_bl)) pss_nil)))
      (pss_cons (ps_if (PW.pt (pw_or (pt_not (pt_val (pe_call G__law_lacking_right (hr.mono (by omega)) (by rfl) D._law_lacking_right.g D._law_lacking_right.F.kp D._law_lacking_right.b .nil (passes_call (takes_of rfl rfl rfl rfl) (fun _ _ _ _ h => h)) (pa_cons (pv 1) (pa_cons (pv 3) (pa_cons (pv 4) (pa_cons (pv 5) pa_nil))))))) (pw_or1 (pt_not (pt_val (RG.peG_call G__law_closed_right guard (hr.mono (by omega)) (by rfl) D._law_closed_right.g D._law_closed_right.F.kp D._law_closed_right.b .nil (passes_call (takes_of rfl rfl rfl rfl) (fun _ _ _ _ h => h)) (pa_cons (pe_ix (r := rIxL K) ix_list (pv 2) pe_int (fun _ _ => rfl)) (pa_cons (pe_ix (r := rIxL K) ix_list (pv 2) pe_int (fun _ _ => rfl)) pa_nil)))))))) (pss_one (ps_ret pe_bl)) pss_nil)
      hT))))))), ?_⟩
    refine ⟨.ref a, rfl, a, ns, rfl, hq, hl, fun N H1 l s1 fN eN lN => ?_⟩
    have n1 : NumsAt H1 N := ⟨l, eN, lN⟩
    clear eN lN
    refine ⟨_, rfl, N, rfl, n1, fun NP H2 p pk s2 n2 fNP eNP => ?_⟩
    have nNP : NP ≠ N := nums_ne n1 fNP
    have pl := pk.1
    have nms := pk.names
    have nd := pk.nodup
    have at_ : ∀ j < 11, ∃ z, p[j]? = some z ∧ nameB z = true ∧ nameB (z ++ Str.ofString "z") = true ∧ atI (txs p) ((j : Nat) : Int) = some (.str z) := fun j hj => by
      have e : p[j]? = some p[j] := List.getElem?_eq_getElem (by omega)
      exact ⟨_, e, nms _ (List.mem_of_getElem? e), (pk.2 j _ e).nameZ hj, atI_nat (by unfold txs; rw [List.getElem?_map, e]; rfl)⟩
    obtain ⟨z2, e2, x2, w2, a2⟩ := at_ 2 (by decide)
    obtain ⟨z3, e3, x3, w3, a3⟩ := at_ 3 (by decide)
    clear fNP s2
    refine ⟨.ref N, rfl, .ref NP, rfl, .ref N, rfl, N, 6, rfl, by decide, n2, fun H3 r hr3 s3 n3 => ⟨1, r, rfl, rfl, _, rfl, NP, _, rfl, sqL (s3 _ _ nNP eNP), fun L nL => ?_⟩⟩
    rw [show cutV (txs p) none (some ((1 + r : Nat) : Int)) = txs (p.take (1 + r)) from (cut_to (txs p) (1 + r)).trans (by unfold txs; rw [List.map_take])]
    have sL := same_upd nL (o := .lst (txs (p.take (1 + r))))
    have eNP3 := sL _ _ (s3 _ _ nNP eNP)
    have nL3 : L ≠ N := nums_ne n3 nL
    refine ⟨N, L, p.take (1 + r), false, rfl, upd_same, nL3, by rw [List.length_take]; omega, fun z m => nms z (List.mem_of_mem_take m), n3.same sL, fun v H4 F4 s4 n4 hF g => ?_⟩
    have eNP4 := s4 _ _ nNP eNP3
    clear eNP3 s3 n3 nL sL eNP n2
    have gE := g.eds rfl
    have gD := g.dep
    have gC := g.cnt
    refine ⟨v, rfl, v, F4, rfl, hF, by omega, fun ys na H5 tl s5 nna ena => ?_⟩
    have nna4 : na ≠ N := nums_ne n4 nna
    have n5 := n4.same s5
    have eNP5 := s5 _ _ eNP4
    have hF5 := hF.same s5
    have lys : ys.length ≤ 10 := by
      have := nodup_le ys (p.take (1 + r)) tl.2.1 fun y m => g.nms y ((tl.2.2 y).mp m)
      rw [List.length_take] at this
      omega
    clear eNP4 n4 nna s5 hF
    refine ⟨_, rfl, 8, rfl, NP, _, rfl, sqL eNP5, fun L2 nL2 => ?_⟩
    rw [show cutV (txs p) none (some 8) = txs (p.take 8) from (cut_to (txs p) 8).trans (by unfold txs; rw [List.map_take])]
    have sL2 := same_upd nL2 (o := .lst (txs (p.take 8)))
    have eL2 : upd H5 L2 (.lst (txs (p.take 8))) L2 = some (.lst (txs (p.take 8))) := upd_same
    have ena6 := sL2 _ _ ena
    have n6 := n5.same sL2
    have hF6 := hF5.same sL2
    have eNP6 := sL2 _ _ eNP5
    generalize upd H5 L2 (.lst (txs (p.take 8))) = H6 at sL2 eL2 ena6 n6 hF6 eNP6
    refine ⟨L2, rfl, ⟨_, sqL eL2⟩, lcLstF (fun y => !decide (y ∈ ys)) eL2 (by rw [List.length_take]; omega) (fun Dl i y H7 Qk Qn hy s7 nDl h1 h2 => ⟨rfl, ?_⟩) (fun oa H7 noa s7 eoa => ?_)⟩
    · refine ⟨.str y, rfl, .ref na, rfl, na, _, rfl, .inl (sqL (s7 _ _ ena6)), rfl, flat_txs _, _, rfl, ?_⟩
      show if (if true = true then (!inV (V.str y) (txs ys)) else _) = true then _ else _
      rw [if_pos rfl, inTxs]
      by_cases m : y ∈ ys
      · rw [decide_eq_true m]
        exact iteF (h2 (by rw [decide_eq_true m]; rfl))
      · rw [decide_eq_false m]
        exact iteT ⟨_, rfl, h1 (by rw [decide_eq_false m]; rfl)⟩
    · have noa6 : oa ≠ N := nums_ne n6 noa
      have n7 := n6.same s7
      have bits : BitsIn H7 v na oa F4 ys ((p.take 8).filter fun y => !decide (y ∈ ys)) := by
        refine ⟨hF6.same s7, g.ok, by omega, by omega, gE, s7 _ _ ena6, eoa, tl, lys, ?_, fun o m => ?_⟩
        · have := List.length_filter_le (fun y => !decide (y ∈ ys)) (p.take 8)
          rw [List.length_take] at this
          omega
        · obtain ⟨m1, m2⟩ := List.mem_filter.mp m
          exact ⟨nms o (List.mem_of_mem_take m1), fun h => by
            have : o ∈ ys := (tl.2.2 o).mpr h
            rw [decide_eq_true this] at m2; cases m2⟩
      have eNP7 := s7 _ _ eNP6
      refine ⟨2, rfl, by decide, by decide, ?_⟩
      refine forRg (n := 2) (fun i σ H8 => (∃ c7, σ = [some (.ref a), some (.ref N), some (.ref NP), some v, some (.ref na), some (.ref oa), none, c7, none, none, none]) ∧ Same H7 H8) ⟨⟨_, rfl⟩, Same.refl _⟩ ?_ ?_
      · rintro i σ H8 hi ⟨⟨c7, rfl⟩, s8⟩
        exact ⟨v, rfl, .ref na, rfl, .ref oa, rfl, v, na, oa, F4, ys, _, rfl, bits.same s8, fun H9 s9 => ⟨true, rfl, iteF ⟨⟨_, rfl⟩, s8.trans s9⟩⟩⟩
      · rintro σ H8 ⟨⟨c7, rfl⟩, s8⟩
        have n8 := n7.same s8
        have b8 := bits.same s8
        have eNP8 := s8 _ _ eNP7
        refine ⟨.ref N, rfl, v, rfl, .ref na, rfl, .ref oa, rfl, N, v, na, oa, F4, ys, _, rfl, b8, n8, nna4, noa6, fun H9 s9 n9 => ⟨true, rfl, iteF ?_⟩⟩
        have eNP9 := s9 _ _ nNP eNP8
        have hF9 := keepF s9 n8 b8.dh
        have nz := pk.notZ z2
        refine ⟨.ref NP, rfl, NP, _, 2, .str z2, rfl, rfl, sqL eNP9, a2, .ref NP, rfl, NP, _, 3, .str z3, rfl, rfl, sqL eNP9, a3, z2, z3, rfl, x2, x3, ne_at nd (by decide) e2 e3, w2, fun e => nz (by rw [e]; exact List.mem_of_getElem? e2), fun e => nz (by rw [e]; exact List.mem_of_getElem? e3), fun H10 s10 => ⟨true, rfl, iteF ?_⟩⟩
        exact rT a N NP v F4 p _ _ _ _ H10 (n9.same s10) (s10 _ _ eNP9) nNP pk (hF9.same s10) g.ok (by omega) (by omega) q
end
end K7

set_option Elab.async false
set_option linter.all false
set_option maxRecDepth 100000
set_option maxHeartbeats 4000000
namespace K7
open PySem PySem.Spec PyProof.Rows L2 GX NdefX
theorem exm_of {K : PySem.W.Frag} {S C : Addr} {b : Bool} (h1 : PySem.W.subIn K (.ref C) (.type "BaseException") = some true) (h2 : PySem.W.isClsIn K C = true) (h3 : PySem.W.typeIn K (.ref C) = some (.type "type")) (h4 : PySem.W.subIn K (.ref S) (.ref C) = some b) :
    PySem.W.exmOne K (.ref S) (.ref C) = some b := by
  have e1 : (PySem.W.subIn K (.ref C) (.type "BaseException") == some true) = true := by rw [h1] <;> rfl
  have e2 : ((PySem.W.clsIn K C).isSome && PySem.W.typeIn K (.ref C) == some (.type "type")) = true := by
    have h2' : (PySem.W.clsIn K C).isSome = true := h2
    rw [h2', h3] <;> rfl
  show (if (PySem.W.subIn K (.ref C) (.type "BaseException") == some true) = true then (if ((PySem.W.clsIn K C).isSome && PySem.W.typeIn K (.ref C) == some (.type "type")) = true then PySem.W.subIn K (.ref S) (.ref C) else none) else none) = some b
  rw [if_pos e1, if_pos e2]
  exact h4
theorem all_mk {P : Program} {w : World} {K : PySem.W.Frag} {h : Heap} {mg : Str → Option Value} {fa : Addr} (X : K.In h) (G : h.Ns mainGlobals mg) (hfa : mg "law" = some (.ref fa))
    {fpis_whole fpis_bit fpcolumns_of fpis_name fpis_formula fp_is_part fpcheck_formula fpleaves_of fphas_edges fpis_plain fpcheck_plain fptold_names fpnames_of fpworked fpbit_of fp_turned fpturned fp_joined fpall_of fpany_of fp_column fphangs_on fp_law_numbers fp_law_draw fp_law_int fp_law_all_rows fp_law_pool fp_law_leaf fp_law_formula fp_law_worth fp_law_turned fp_law_names fp_law_deep fp_law_word fp_law_bits_right fp_law_lacking_right fp_law_joint_right fp_law_refused_right fp_law_closed_right fp_law_depths_right flaw ARungsError CBadName iBadName ccBadName cdaBadName NBadName CBadFormula iBadFormula ccBadFormula cdaBadFormula NBadFormula CTooMany iTooMany ccTooMany cdaTooMany NTooMany : Addr}
    {ocpis_whole kVpis_whole dcpis_whole pmpis_whole cdpis_whole ctpis_whole ocpis_bit kVpis_bit dcpis_bit pmpis_bit cdpis_bit ctpis_bit ocpcolumns_of kVpcolumns_of dcpcolumns_of pmpcolumns_of cdpcolumns_of ctpcolumns_of ocpis_name kVpis_name dcpis_name pmpis_name cdpis_name ctpis_name ocpis_formula kVpis_formula dcpis_formula pmpis_formula cdpis_formula ctpis_formula ocp_is_part kVp_is_part dcp_is_part pmp_is_part cdp_is_part ctp_is_part ocpcheck_formula kVpcheck_formula dcpcheck_formula pmpcheck_formula cdpcheck_formula ctpcheck_formula ocpleaves_of kVpleaves_of dcpleaves_of pmpleaves_of cdpleaves_of ctpleaves_of ocphas_edges kVphas_edges dcphas_edges pmphas_edges cdphas_edges ctphas_edges ocpis_plain kVpis_plain dcpis_plain pmpis_plain cdpis_plain ctpis_plain ocpcheck_plain kVpcheck_plain dcpcheck_plain pmpcheck_plain cdpcheck_plain ctpcheck_plain ocptold_names kVptold_names dcptold_names pmptold_names cdptold_names ctptold_names ocpnames_of kVpnames_of dcpnames_of pmpnames_of cdpnames_of ctpnames_of ocpworked kVpworked dcpworked pmpworked cdpworked ctpworked ocpbit_of kVpbit_of dcpbit_of pmpbit_of cdpbit_of ctpbit_of ocp_turned kVp_turned dcp_turned pmp_turned cdp_turned ctp_turned ocpturned kVpturned dcpturned pmpturned cdpturned ctpturned ocp_joined kVp_joined dcp_joined pmp_joined cdp_joined ctp_joined ocpall_of kVpall_of dcpall_of pmpall_of cdpall_of ctpall_of ocpany_of kVpany_of dcpany_of pmpany_of cdpany_of ctpany_of ocp_column kVp_column dcp_column pmp_column cdp_column ctp_column ocphangs_on kVphangs_on dcphangs_on pmphangs_on cdphangs_on ctphangs_on ocp_law_numbers kVp_law_numbers dcp_law_numbers pmp_law_numbers cdp_law_numbers ctp_law_numbers ocp_law_draw kVp_law_draw dcp_law_draw pmp_law_draw cdp_law_draw ctp_law_draw ocp_law_int kVp_law_int dcp_law_int pmp_law_int cdp_law_int ctp_law_int ocp_law_all_rows kVp_law_all_rows dcp_law_all_rows pmp_law_all_rows cdp_law_all_rows ctp_law_all_rows ocp_law_pool kVp_law_pool dcp_law_pool pmp_law_pool cdp_law_pool ctp_law_pool ocp_law_leaf kVp_law_leaf dcp_law_leaf pmp_law_leaf cdp_law_leaf ctp_law_leaf ocp_law_formula kVp_law_formula dcp_law_formula pmp_law_formula cdp_law_formula ctp_law_formula ocp_law_worth kVp_law_worth dcp_law_worth pmp_law_worth cdp_law_worth ctp_law_worth ocp_law_turned kVp_law_turned dcp_law_turned pmp_law_turned cdp_law_turned ctp_law_turned ocp_law_names kVp_law_names dcp_law_names pmp_law_names cdp_law_names ctp_law_names ocp_law_deep kVp_law_deep dcp_law_deep pmp_law_deep cdp_law_deep ctp_law_deep ocp_law_word kVp_law_word dcp_law_word pmp_law_word cdp_law_word ctp_law_word ocp_law_bits_right kVp_law_bits_right dcp_law_bits_right pmp_law_bits_right cdp_law_bits_right ctp_law_bits_right ocp_law_lacking_right kVp_law_lacking_right dcp_law_lacking_right pmp_law_lacking_right cdp_law_lacking_right ctp_law_lacking_right ocp_law_joint_right kVp_law_joint_right dcp_law_joint_right pmp_law_joint_right cdp_law_joint_right ctp_law_joint_right ocp_law_refused_right kVp_law_refused_right dcp_law_refused_right pmp_law_refused_right cdp_law_refused_right ctp_law_refused_right ocp_law_closed_right kVp_law_closed_right dcp_law_closed_right pmp_law_closed_right cdp_law_closed_right ctp_law_closed_right ocp_law_depths_right kVp_law_depths_right dcp_law_depths_right pmp_law_depths_right cdp_law_depths_right ctp_law_depths_right oclaw kVlaw dclaw pmlaw cdlaw ctlaw oiBadName kViBadName dciBadName pmiBadName ctiBadName cclBadName clBadName oiBadFormula kViBadFormula dciBadFormula pmiBadFormula ctiBadFormula cclBadFormula clBadFormula oiTooMany kViTooMany dciTooMany pmiTooMany ctiTooMany cclTooMany clTooMany : Value}
    {odpis_whole anpis_whole odpis_bit anpis_bit odpcolumns_of anpcolumns_of odpis_name anpis_name odpis_formula anpis_formula odp_is_part anp_is_part odpcheck_formula anpcheck_formula odpleaves_of anpleaves_of odphas_edges anphas_edges odpis_plain anpis_plain odpcheck_plain anpcheck_plain odptold_names anptold_names odpnames_of anpnames_of odpworked anpworked odpbit_of anpbit_of odp_turned anp_turned odpturned anpturned odp_joined anp_joined odpall_of anpall_of odpany_of anpany_of odp_column anp_column odphangs_on anphangs_on odp_law_numbers anp_law_numbers odp_law_draw anp_law_draw odp_law_int anp_law_int odp_law_all_rows anp_law_all_rows odp_law_pool anp_law_pool odp_law_leaf anp_law_leaf odp_law_formula anp_law_formula odp_law_worth anp_law_worth odp_law_turned anp_law_turned odp_law_names anp_law_names odp_law_deep anp_law_deep odp_law_word anp_law_word odp_law_bits_right anp_law_bits_right odp_law_lacking_right anp_law_lacking_right odp_law_joint_right anp_law_joint_right odp_law_refused_right anp_law_refused_right odp_law_closed_right anp_law_closed_right odp_law_depths_right anp_law_depths_right odlaw anlaw diBadName aniBadName cddBadName cldBadName ddBadName diBadFormula aniBadFormula cddBadFormula cldBadFormula ddBadFormula diTooMany aniTooMany cddTooMany cldTooMany ddTooMany : Option Addr}
    {slpis_whole slpis_bit slpcolumns_of slpis_name slpis_formula slp_is_part slpcheck_formula slpleaves_of slphas_edges slpis_plain slpcheck_plain slptold_names slpnames_of slpworked slpbit_of slp_turned slpturned slp_joined slpall_of slpany_of slp_column slphangs_on slp_law_numbers slp_law_draw slp_law_int slp_law_all_rows slp_law_pool slp_law_leaf slp_law_formula slp_law_worth slp_law_turned slp_law_names slp_law_deep slp_law_word slp_law_bits_right slp_law_lacking_right slp_law_joint_right slp_law_refused_right slp_law_closed_right slp_law_depths_right sllaw sliBadName ccsBadName cslBadName sliBadFormula ccsBadFormula cslBadFormula sliTooMany ccsTooMany cslTooMany : Array (Option Value)}
    {vsBadName vsBadFormula vsTooMany : Array Value}
    {tfBadName tfBadFormula tfTooMany : Tok}
    {nmBadName qBadName fileBadName nmBadFormula qBadFormula fileBadFormula nmTooMany qTooMany fileTooMany : Str}
    {bsBadName subBadName bsBadFormula subBadFormula bsTooMany subTooMany : List Value}
    {snBadName snBadFormula snTooMany : List Str}
    {abBadName abBadFormula abTooMany : Bool}
    {colBadName colBadFormula colTooMany : Option Bool}
    {m0BadName m1BadName m2BadName m3BadName m5BadName m0BadFormula m1BadFormula m2BadFormula m3BadFormula m5BadFormula m0TooMany m1TooMany m2TooMany m3TooMany m5TooMany : Option Value}
    {dTpis_formula : Addr}
    {dDpis_formula : Option Addr}
    {dNpis_formula : Nat}
    {dSpis_formula : Array (Option Value)}
    {dkpis_formula1 : Tok}
    {tCLETTERS : Tok}
    {tCSIGNS : Tok}
    {aCWORDS : Addr}
    {oCWORDS : Option Addr}
    {nCWORDS : Nat}
    {sCWORDS : Array (Option Value)}
    {wWORDS0 wWORDS1 wWORDS2 wWORDS3 wWORDS4 : Tok}
    {aCEDGES : Addr}
    {oCEDGES : Option Addr}
    {nCEDGES : Nat}
    {sCEDGES : Array (Option Value)}
    {wEDGES0 wEDGES1 : Tok}
    {aCJOINTS : Addr}
    {oCJOINTS : Option Addr}
    {nCJOINTS : Nat}
    {sCJOINTS : Array (Option Value)}
    {wJOINTS0 wJOINTS1 : Tok}
    {tCDEEPEST : Tok}
    
    (apis_whole : PySem.W.nsIn K mainGlobals "is_whole" = some (some (.ref fpis_whole)))
    (lpis_whole : K.lookup fpis_whole = some ⟨ocpis_whole, odpis_whole, .func (PySem.W.fnOf "is_whole" "is_whole" (defArgs s_is_whole) (defBody s_is_whole) (defScope s_is_whole) .none kVpis_whole dcpis_whole pmpis_whole anpis_whole cdpis_whole ctpis_whole), slpis_whole⟩)
    (cpis_whole : PySem.W.codeIn K cdpis_whole "is_whole" = true)
    (kpis_whole : PySem.W.keepIn K (.ref fpis_whole) = true)
    (apis_bit : PySem.W.nsIn K mainGlobals "is_bit" = some (some (.ref fpis_bit)))
    (lpis_bit : K.lookup fpis_bit = some ⟨ocpis_bit, odpis_bit, .func (PySem.W.fnOf "is_bit" "is_bit" (defArgs s_is_bit) (defBody s_is_bit) (defScope s_is_bit) .none kVpis_bit dcpis_bit pmpis_bit anpis_bit cdpis_bit ctpis_bit), slpis_bit⟩)
    (cpis_bit : PySem.W.codeIn K cdpis_bit "is_bit" = true)
    (kpis_bit : PySem.W.keepIn K (.ref fpis_bit) = true)
    (apcolumns_of : PySem.W.nsIn K mainGlobals "columns_of" = some (some (.ref fpcolumns_of)))
    (lpcolumns_of : K.lookup fpcolumns_of = some ⟨ocpcolumns_of, odpcolumns_of, .func (PySem.W.fnOf "columns_of" "columns_of" (defArgs s_columns_of) (defBody s_columns_of) (defScope s_columns_of) .none kVpcolumns_of dcpcolumns_of pmpcolumns_of anpcolumns_of cdpcolumns_of ctpcolumns_of), slpcolumns_of⟩)
    (cpcolumns_of : PySem.W.codeIn K cdpcolumns_of "columns_of" = true)
    (kpcolumns_of : PySem.W.keepIn K (.ref fpcolumns_of) = true)
    (apis_name : PySem.W.nsIn K mainGlobals "is_name" = some (some (.ref fpis_name)))
    (lpis_name : K.lookup fpis_name = some ⟨ocpis_name, odpis_name, .func (PySem.W.fnOf "is_name" "is_name" (defArgs s_is_name) (defBody s_is_name) (defScope s_is_name) .none kVpis_name dcpis_name pmpis_name anpis_name cdpis_name ctpis_name), slpis_name⟩)
    (cpis_name : PySem.W.codeIn K cdpis_name "is_name" = true)
    (kpis_name : PySem.W.keepIn K (.ref fpis_name) = true)
    (apis_formula : PySem.W.nsIn K mainGlobals "is_formula" = some (some (.ref fpis_formula)))
    (dtpis_formula : K.lookup dTpis_formula = some ⟨.type "tuple", dDpis_formula, .seq #[.none, .int 40 dkpis_formula1] dNpis_formula, dSpis_formula⟩)
    (lpis_formula : K.lookup fpis_formula = some ⟨ocpis_formula, odpis_formula, .func (PySem.W.fnOf "is_formula" "is_formula" (defArgs s_is_formula) (defBody s_is_formula) (defScope s_is_formula) (.ref dTpis_formula) kVpis_formula dcpis_formula pmpis_formula anpis_formula cdpis_formula ctpis_formula), slpis_formula⟩)
    (cpis_formula : PySem.W.codeIn K cdpis_formula "is_formula" = true)
    (kpis_formula : PySem.W.keepIn K (.ref fpis_formula) = true)
    (ap_is_part : PySem.W.nsIn K mainGlobals "_is_part" = some (some (.ref fp_is_part)))
    (lp_is_part : K.lookup fp_is_part = some ⟨ocp_is_part, odp_is_part, .func (PySem.W.fnOf "_is_part" "_is_part" (defArgs s__is_part) (defBody s__is_part) (defScope s__is_part) .none kVp_is_part dcp_is_part pmp_is_part anp_is_part cdp_is_part ctp_is_part), slp_is_part⟩)
    (cp_is_part : PySem.W.codeIn K cdp_is_part "_is_part" = true)
    (kp_is_part : PySem.W.keepIn K (.ref fp_is_part) = true)
    (apcheck_formula : PySem.W.nsIn K mainGlobals "check_formula" = some (some (.ref fpcheck_formula)))
    (lpcheck_formula : K.lookup fpcheck_formula = some ⟨ocpcheck_formula, odpcheck_formula, .func (PySem.W.fnOf "check_formula" "check_formula" (defArgs s_check_formula) (defBody s_check_formula) (defScope s_check_formula) .none kVpcheck_formula dcpcheck_formula pmpcheck_formula anpcheck_formula cdpcheck_formula ctpcheck_formula), slpcheck_formula⟩)
    (cpcheck_formula : PySem.W.codeIn K cdpcheck_formula "check_formula" = true)
    (kpcheck_formula : PySem.W.keepIn K (.ref fpcheck_formula) = true)
    (apleaves_of : PySem.W.nsIn K mainGlobals "leaves_of" = some (some (.ref fpleaves_of)))
    (lpleaves_of : K.lookup fpleaves_of = some ⟨ocpleaves_of, odpleaves_of, .func (PySem.W.fnOf "leaves_of" "leaves_of" (defArgs s_leaves_of) (defBody s_leaves_of) (defScope s_leaves_of) .none kVpleaves_of dcpleaves_of pmpleaves_of anpleaves_of cdpleaves_of ctpleaves_of), slpleaves_of⟩)
    (cpleaves_of : PySem.W.codeIn K cdpleaves_of "leaves_of" = true)
    (kpleaves_of : PySem.W.keepIn K (.ref fpleaves_of) = true)
    (aphas_edges : PySem.W.nsIn K mainGlobals "has_edges" = some (some (.ref fphas_edges)))
    (lphas_edges : K.lookup fphas_edges = some ⟨ocphas_edges, odphas_edges, .func (PySem.W.fnOf "has_edges" "has_edges" (defArgs s_has_edges) (defBody s_has_edges) (defScope s_has_edges) .none kVphas_edges dcphas_edges pmphas_edges anphas_edges cdphas_edges ctphas_edges), slphas_edges⟩)
    (cphas_edges : PySem.W.codeIn K cdphas_edges "has_edges" = true)
    (kphas_edges : PySem.W.keepIn K (.ref fphas_edges) = true)
    (apis_plain : PySem.W.nsIn K mainGlobals "is_plain" = some (some (.ref fpis_plain)))
    (lpis_plain : K.lookup fpis_plain = some ⟨ocpis_plain, odpis_plain, .func (PySem.W.fnOf "is_plain" "is_plain" (defArgs s_is_plain) (defBody s_is_plain) (defScope s_is_plain) .none kVpis_plain dcpis_plain pmpis_plain anpis_plain cdpis_plain ctpis_plain), slpis_plain⟩)
    (cpis_plain : PySem.W.codeIn K cdpis_plain "is_plain" = true)
    (kpis_plain : PySem.W.keepIn K (.ref fpis_plain) = true)
    (apcheck_plain : PySem.W.nsIn K mainGlobals "check_plain" = some (some (.ref fpcheck_plain)))
    (lpcheck_plain : K.lookup fpcheck_plain = some ⟨ocpcheck_plain, odpcheck_plain, .func (PySem.W.fnOf "check_plain" "check_plain" (defArgs s_check_plain) (defBody s_check_plain) (defScope s_check_plain) .none kVpcheck_plain dcpcheck_plain pmpcheck_plain anpcheck_plain cdpcheck_plain ctpcheck_plain), slpcheck_plain⟩)
    (cpcheck_plain : PySem.W.codeIn K cdpcheck_plain "check_plain" = true)
    (kpcheck_plain : PySem.W.keepIn K (.ref fpcheck_plain) = true)
    (aptold_names : PySem.W.nsIn K mainGlobals "told_names" = some (some (.ref fptold_names)))
    (lptold_names : K.lookup fptold_names = some ⟨ocptold_names, odptold_names, .func (PySem.W.fnOf "told_names" "told_names" (defArgs s_told_names) (defBody s_told_names) (defScope s_told_names) .none kVptold_names dcptold_names pmptold_names anptold_names cdptold_names ctptold_names), slptold_names⟩)
    (cptold_names : PySem.W.codeIn K cdptold_names "told_names" = true)
    (kptold_names : PySem.W.keepIn K (.ref fptold_names) = true)
    (apnames_of : PySem.W.nsIn K mainGlobals "names_of" = some (some (.ref fpnames_of)))
    (lpnames_of : K.lookup fpnames_of = some ⟨ocpnames_of, odpnames_of, .func (PySem.W.fnOf "names_of" "names_of" (defArgs s_names_of) (defBody s_names_of) (defScope s_names_of) .none kVpnames_of dcpnames_of pmpnames_of anpnames_of cdpnames_of ctpnames_of), slpnames_of⟩)
    (cpnames_of : PySem.W.codeIn K cdpnames_of "names_of" = true)
    (kpnames_of : PySem.W.keepIn K (.ref fpnames_of) = true)
    (apworked : PySem.W.nsIn K mainGlobals "worked" = some (some (.ref fpworked)))
    (lpworked : K.lookup fpworked = some ⟨ocpworked, odpworked, .func (PySem.W.fnOf "worked" "worked" (defArgs s_worked) (defBody s_worked) (defScope s_worked) .none kVpworked dcpworked pmpworked anpworked cdpworked ctpworked), slpworked⟩)
    (cpworked : PySem.W.codeIn K cdpworked "worked" = true)
    (kpworked : PySem.W.keepIn K (.ref fpworked) = true)
    (apbit_of : PySem.W.nsIn K mainGlobals "bit_of" = some (some (.ref fpbit_of)))
    (lpbit_of : K.lookup fpbit_of = some ⟨ocpbit_of, odpbit_of, .func (PySem.W.fnOf "bit_of" "bit_of" (defArgs s_bit_of) (defBody s_bit_of) (defScope s_bit_of) .none kVpbit_of dcpbit_of pmpbit_of anpbit_of cdpbit_of ctpbit_of), slpbit_of⟩)
    (cpbit_of : PySem.W.codeIn K cdpbit_of "bit_of" = true)
    (kpbit_of : PySem.W.keepIn K (.ref fpbit_of) = true)
    (ap_turned : PySem.W.nsIn K mainGlobals "_turned" = some (some (.ref fp_turned)))
    (lp_turned : K.lookup fp_turned = some ⟨ocp_turned, odp_turned, .func (PySem.W.fnOf "_turned" "_turned" (defArgs s__turned) (defBody s__turned) (defScope s__turned) .none kVp_turned dcp_turned pmp_turned anp_turned cdp_turned ctp_turned), slp_turned⟩)
    (cp_turned : PySem.W.codeIn K cdp_turned "_turned" = true)
    (kp_turned : PySem.W.keepIn K (.ref fp_turned) = true)
    (apturned : PySem.W.nsIn K mainGlobals "turned" = some (some (.ref fpturned)))
    (lpturned : K.lookup fpturned = some ⟨ocpturned, odpturned, .func (PySem.W.fnOf "turned" "turned" (defArgs s_turned) (defBody s_turned) (defScope s_turned) .none kVpturned dcpturned pmpturned anpturned cdpturned ctpturned), slpturned⟩)
    (cpturned : PySem.W.codeIn K cdpturned "turned" = true)
    (kpturned : PySem.W.keepIn K (.ref fpturned) = true)
    (ap_joined : PySem.W.nsIn K mainGlobals "_joined" = some (some (.ref fp_joined)))
    (lp_joined : K.lookup fp_joined = some ⟨ocp_joined, odp_joined, .func (PySem.W.fnOf "_joined" "_joined" (defArgs s__joined) (defBody s__joined) (defScope s__joined) .none kVp_joined dcp_joined pmp_joined anp_joined cdp_joined ctp_joined), slp_joined⟩)
    (cp_joined : PySem.W.codeIn K cdp_joined "_joined" = true)
    (kp_joined : PySem.W.keepIn K (.ref fp_joined) = true)
    (apall_of : PySem.W.nsIn K mainGlobals "all_of" = some (some (.ref fpall_of)))
    (lpall_of : K.lookup fpall_of = some ⟨ocpall_of, odpall_of, .func (PySem.W.fnOf "all_of" "all_of" (defArgs s_all_of) (defBody s_all_of) (defScope s_all_of) .none kVpall_of dcpall_of pmpall_of anpall_of cdpall_of ctpall_of), slpall_of⟩)
    (cpall_of : PySem.W.codeIn K cdpall_of "all_of" = true)
    (kpall_of : PySem.W.keepIn K (.ref fpall_of) = true)
    (apany_of : PySem.W.nsIn K mainGlobals "any_of" = some (some (.ref fpany_of)))
    (lpany_of : K.lookup fpany_of = some ⟨ocpany_of, odpany_of, .func (PySem.W.fnOf "any_of" "any_of" (defArgs s_any_of) (defBody s_any_of) (defScope s_any_of) .none kVpany_of dcpany_of pmpany_of anpany_of cdpany_of ctpany_of), slpany_of⟩)
    (cpany_of : PySem.W.codeIn K cdpany_of "any_of" = true)
    (kpany_of : PySem.W.keepIn K (.ref fpany_of) = true)
    (ap_column : PySem.W.nsIn K mainGlobals "_column" = some (some (.ref fp_column)))
    (lp_column : K.lookup fp_column = some ⟨ocp_column, odp_column, .func (PySem.W.fnOf "_column" "_column" (defArgs s__column) (defBody s__column) (defScope s__column) .none kVp_column dcp_column pmp_column anp_column cdp_column ctp_column), slp_column⟩)
    (cp_column : PySem.W.codeIn K cdp_column "_column" = true)
    (kp_column : PySem.W.keepIn K (.ref fp_column) = true)
    (aphangs_on : PySem.W.nsIn K mainGlobals "hangs_on" = some (some (.ref fphangs_on)))
    (lphangs_on : K.lookup fphangs_on = some ⟨ocphangs_on, odphangs_on, .func (PySem.W.fnOf "hangs_on" "hangs_on" (defArgs s_hangs_on) (defBody s_hangs_on) (defScope s_hangs_on) .none kVphangs_on dcphangs_on pmphangs_on anphangs_on cdphangs_on ctphangs_on), slphangs_on⟩)
    (cphangs_on : PySem.W.codeIn K cdphangs_on "hangs_on" = true)
    (kphangs_on : PySem.W.keepIn K (.ref fphangs_on) = true)
    (ap_law_numbers : PySem.W.nsIn K mainGlobals "_law_numbers" = some (some (.ref fp_law_numbers)))
    (lp_law_numbers : K.lookup fp_law_numbers = some ⟨ocp_law_numbers, odp_law_numbers, .func (PySem.W.fnOf "_law_numbers" "_law_numbers" (defArgs s__law_numbers) (defBody s__law_numbers) (defScope s__law_numbers) .none kVp_law_numbers dcp_law_numbers pmp_law_numbers anp_law_numbers cdp_law_numbers ctp_law_numbers), slp_law_numbers⟩)
    (cp_law_numbers : PySem.W.codeIn K cdp_law_numbers "_law_numbers" = true)
    (kp_law_numbers : PySem.W.keepIn K (.ref fp_law_numbers) = true)
    (ap_law_draw : PySem.W.nsIn K mainGlobals "_law_draw" = some (some (.ref fp_law_draw)))
    (lp_law_draw : K.lookup fp_law_draw = some ⟨ocp_law_draw, odp_law_draw, .func (PySem.W.fnOf "_law_draw" "_law_draw" (defArgs s__law_draw) (defBody s__law_draw) (defScope s__law_draw) .none kVp_law_draw dcp_law_draw pmp_law_draw anp_law_draw cdp_law_draw ctp_law_draw), slp_law_draw⟩)
    (cp_law_draw : PySem.W.codeIn K cdp_law_draw "_law_draw" = true)
    (kp_law_draw : PySem.W.keepIn K (.ref fp_law_draw) = true)
    (ap_law_int : PySem.W.nsIn K mainGlobals "_law_int" = some (some (.ref fp_law_int)))
    (lp_law_int : K.lookup fp_law_int = some ⟨ocp_law_int, odp_law_int, .func (PySem.W.fnOf "_law_int" "_law_int" (defArgs s__law_int) (defBody s__law_int) (defScope s__law_int) .none kVp_law_int dcp_law_int pmp_law_int anp_law_int cdp_law_int ctp_law_int), slp_law_int⟩)
    (cp_law_int : PySem.W.codeIn K cdp_law_int "_law_int" = true)
    (kp_law_int : PySem.W.keepIn K (.ref fp_law_int) = true)
    (ap_law_all_rows : PySem.W.nsIn K mainGlobals "_law_all_rows" = some (some (.ref fp_law_all_rows)))
    (lp_law_all_rows : K.lookup fp_law_all_rows = some ⟨ocp_law_all_rows, odp_law_all_rows, .func (PySem.W.fnOf "_law_all_rows" "_law_all_rows" (defArgs s__law_all_rows) (defBody s__law_all_rows) (defScope s__law_all_rows) .none kVp_law_all_rows dcp_law_all_rows pmp_law_all_rows anp_law_all_rows cdp_law_all_rows ctp_law_all_rows), slp_law_all_rows⟩)
    (cp_law_all_rows : PySem.W.codeIn K cdp_law_all_rows "_law_all_rows" = true)
    (kp_law_all_rows : PySem.W.keepIn K (.ref fp_law_all_rows) = true)
    (ap_law_pool : PySem.W.nsIn K mainGlobals "_law_pool" = some (some (.ref fp_law_pool)))
    (lp_law_pool : K.lookup fp_law_pool = some ⟨ocp_law_pool, odp_law_pool, .func (PySem.W.fnOf "_law_pool" "_law_pool" (defArgs s__law_pool) (defBody s__law_pool) (defScope s__law_pool) .none kVp_law_pool dcp_law_pool pmp_law_pool anp_law_pool cdp_law_pool ctp_law_pool), slp_law_pool⟩)
    (cp_law_pool : PySem.W.codeIn K cdp_law_pool "_law_pool" = true)
    (kp_law_pool : PySem.W.keepIn K (.ref fp_law_pool) = true)
    (ap_law_leaf : PySem.W.nsIn K mainGlobals "_law_leaf" = some (some (.ref fp_law_leaf)))
    (lp_law_leaf : K.lookup fp_law_leaf = some ⟨ocp_law_leaf, odp_law_leaf, .func (PySem.W.fnOf "_law_leaf" "_law_leaf" (defArgs s__law_leaf) (defBody s__law_leaf) (defScope s__law_leaf) .none kVp_law_leaf dcp_law_leaf pmp_law_leaf anp_law_leaf cdp_law_leaf ctp_law_leaf), slp_law_leaf⟩)
    (cp_law_leaf : PySem.W.codeIn K cdp_law_leaf "_law_leaf" = true)
    (kp_law_leaf : PySem.W.keepIn K (.ref fp_law_leaf) = true)
    (ap_law_formula : PySem.W.nsIn K mainGlobals "_law_formula" = some (some (.ref fp_law_formula)))
    (lp_law_formula : K.lookup fp_law_formula = some ⟨ocp_law_formula, odp_law_formula, .func (PySem.W.fnOf "_law_formula" "_law_formula" (defArgs s__law_formula) (defBody s__law_formula) (defScope s__law_formula) .none kVp_law_formula dcp_law_formula pmp_law_formula anp_law_formula cdp_law_formula ctp_law_formula), slp_law_formula⟩)
    (cp_law_formula : PySem.W.codeIn K cdp_law_formula "_law_formula" = true)
    (kp_law_formula : PySem.W.keepIn K (.ref fp_law_formula) = true)
    (ap_law_worth : PySem.W.nsIn K mainGlobals "_law_worth" = some (some (.ref fp_law_worth)))
    (lp_law_worth : K.lookup fp_law_worth = some ⟨ocp_law_worth, odp_law_worth, .func (PySem.W.fnOf "_law_worth" "_law_worth" (defArgs s__law_worth) (defBody s__law_worth) (defScope s__law_worth) .none kVp_law_worth dcp_law_worth pmp_law_worth anp_law_worth cdp_law_worth ctp_law_worth), slp_law_worth⟩)
    (cp_law_worth : PySem.W.codeIn K cdp_law_worth "_law_worth" = true)
    (kp_law_worth : PySem.W.keepIn K (.ref fp_law_worth) = true)
    (ap_law_turned : PySem.W.nsIn K mainGlobals "_law_turned" = some (some (.ref fp_law_turned)))
    (lp_law_turned : K.lookup fp_law_turned = some ⟨ocp_law_turned, odp_law_turned, .func (PySem.W.fnOf "_law_turned" "_law_turned" (defArgs s__law_turned) (defBody s__law_turned) (defScope s__law_turned) .none kVp_law_turned dcp_law_turned pmp_law_turned anp_law_turned cdp_law_turned ctp_law_turned), slp_law_turned⟩)
    (cp_law_turned : PySem.W.codeIn K cdp_law_turned "_law_turned" = true)
    (kp_law_turned : PySem.W.keepIn K (.ref fp_law_turned) = true)
    (ap_law_names : PySem.W.nsIn K mainGlobals "_law_names" = some (some (.ref fp_law_names)))
    (lp_law_names : K.lookup fp_law_names = some ⟨ocp_law_names, odp_law_names, .func (PySem.W.fnOf "_law_names" "_law_names" (defArgs s__law_names) (defBody s__law_names) (defScope s__law_names) .none kVp_law_names dcp_law_names pmp_law_names anp_law_names cdp_law_names ctp_law_names), slp_law_names⟩)
    (cp_law_names : PySem.W.codeIn K cdp_law_names "_law_names" = true)
    (kp_law_names : PySem.W.keepIn K (.ref fp_law_names) = true)
    (ap_law_deep : PySem.W.nsIn K mainGlobals "_law_deep" = some (some (.ref fp_law_deep)))
    (lp_law_deep : K.lookup fp_law_deep = some ⟨ocp_law_deep, odp_law_deep, .func (PySem.W.fnOf "_law_deep" "_law_deep" (defArgs s__law_deep) (defBody s__law_deep) (defScope s__law_deep) .none kVp_law_deep dcp_law_deep pmp_law_deep anp_law_deep cdp_law_deep ctp_law_deep), slp_law_deep⟩)
    (cp_law_deep : PySem.W.codeIn K cdp_law_deep "_law_deep" = true)
    (kp_law_deep : PySem.W.keepIn K (.ref fp_law_deep) = true)
    (ap_law_word : PySem.W.nsIn K mainGlobals "_law_word" = some (some (.ref fp_law_word)))
    (lp_law_word : K.lookup fp_law_word = some ⟨ocp_law_word, odp_law_word, .func (PySem.W.fnOf "_law_word" "_law_word" (defArgs s__law_word) (defBody s__law_word) (defScope s__law_word) .none kVp_law_word dcp_law_word pmp_law_word anp_law_word cdp_law_word ctp_law_word), slp_law_word⟩)
    (cp_law_word : PySem.W.codeIn K cdp_law_word "_law_word" = true)
    (kp_law_word : PySem.W.keepIn K (.ref fp_law_word) = true)
    (ap_law_bits_right : PySem.W.nsIn K mainGlobals "_law_bits_right" = some (some (.ref fp_law_bits_right)))
    (lp_law_bits_right : K.lookup fp_law_bits_right = some ⟨ocp_law_bits_right, odp_law_bits_right, .func (PySem.W.fnOf "_law_bits_right" "_law_bits_right" (defArgs s__law_bits_right) (defBody s__law_bits_right) (defScope s__law_bits_right) .none kVp_law_bits_right dcp_law_bits_right pmp_law_bits_right anp_law_bits_right cdp_law_bits_right ctp_law_bits_right), slp_law_bits_right⟩)
    (cp_law_bits_right : PySem.W.codeIn K cdp_law_bits_right "_law_bits_right" = true)
    (kp_law_bits_right : PySem.W.keepIn K (.ref fp_law_bits_right) = true)
    (ap_law_lacking_right : PySem.W.nsIn K mainGlobals "_law_lacking_right" = some (some (.ref fp_law_lacking_right)))
    (lp_law_lacking_right : K.lookup fp_law_lacking_right = some ⟨ocp_law_lacking_right, odp_law_lacking_right, .func (PySem.W.fnOf "_law_lacking_right" "_law_lacking_right" (defArgs s__law_lacking_right) (defBody s__law_lacking_right) (defScope s__law_lacking_right) .none kVp_law_lacking_right dcp_law_lacking_right pmp_law_lacking_right anp_law_lacking_right cdp_law_lacking_right ctp_law_lacking_right), slp_law_lacking_right⟩)
    (cp_law_lacking_right : PySem.W.codeIn K cdp_law_lacking_right "_law_lacking_right" = true)
    (kp_law_lacking_right : PySem.W.keepIn K (.ref fp_law_lacking_right) = true)
    (ap_law_joint_right : PySem.W.nsIn K mainGlobals "_law_joint_right" = some (some (.ref fp_law_joint_right)))
    (lp_law_joint_right : K.lookup fp_law_joint_right = some ⟨ocp_law_joint_right, odp_law_joint_right, .func (PySem.W.fnOf "_law_joint_right" "_law_joint_right" (defArgs s__law_joint_right) (defBody s__law_joint_right) (defScope s__law_joint_right) .none kVp_law_joint_right dcp_law_joint_right pmp_law_joint_right anp_law_joint_right cdp_law_joint_right ctp_law_joint_right), slp_law_joint_right⟩)
    (cp_law_joint_right : PySem.W.codeIn K cdp_law_joint_right "_law_joint_right" = true)
    (kp_law_joint_right : PySem.W.keepIn K (.ref fp_law_joint_right) = true)
    (ap_law_refused_right : PySem.W.nsIn K mainGlobals "_law_refused_right" = some (some (.ref fp_law_refused_right)))
    (lp_law_refused_right : K.lookup fp_law_refused_right = some ⟨ocp_law_refused_right, odp_law_refused_right, .func (PySem.W.fnOf "_law_refused_right" "_law_refused_right" (defArgs s__law_refused_right) (defBody s__law_refused_right) (defScope s__law_refused_right) .none kVp_law_refused_right dcp_law_refused_right pmp_law_refused_right anp_law_refused_right cdp_law_refused_right ctp_law_refused_right), slp_law_refused_right⟩)
    (cp_law_refused_right : PySem.W.codeIn K cdp_law_refused_right "_law_refused_right" = true)
    (kp_law_refused_right : PySem.W.keepIn K (.ref fp_law_refused_right) = true)
    (ap_law_closed_right : PySem.W.nsIn K mainGlobals "_law_closed_right" = some (some (.ref fp_law_closed_right)))
    (lp_law_closed_right : K.lookup fp_law_closed_right = some ⟨ocp_law_closed_right, odp_law_closed_right, .func (PySem.W.fnOf "_law_closed_right" "_law_closed_right" (defArgs s__law_closed_right) (defBody s__law_closed_right) (defScope s__law_closed_right) .none kVp_law_closed_right dcp_law_closed_right pmp_law_closed_right anp_law_closed_right cdp_law_closed_right ctp_law_closed_right), slp_law_closed_right⟩)
    (cp_law_closed_right : PySem.W.codeIn K cdp_law_closed_right "_law_closed_right" = true)
    (kp_law_closed_right : PySem.W.keepIn K (.ref fp_law_closed_right) = true)
    (ap_law_depths_right : PySem.W.nsIn K mainGlobals "_law_depths_right" = some (some (.ref fp_law_depths_right)))
    (lp_law_depths_right : K.lookup fp_law_depths_right = some ⟨ocp_law_depths_right, odp_law_depths_right, .func (PySem.W.fnOf "_law_depths_right" "_law_depths_right" (defArgs s__law_depths_right) (defBody s__law_depths_right) (defScope s__law_depths_right) .none kVp_law_depths_right dcp_law_depths_right pmp_law_depths_right anp_law_depths_right cdp_law_depths_right ctp_law_depths_right), slp_law_depths_right⟩)
    (cp_law_depths_right : PySem.W.codeIn K cdp_law_depths_right "_law_depths_right" = true)
    (kp_law_depths_right : PySem.W.keepIn K (.ref fp_law_depths_right) = true)
    (alaw : PySem.W.nsIn K mainGlobals "law" = some (some (.ref flaw)))
    (llaw : K.lookup flaw = some ⟨oclaw, odlaw, .func (PySem.W.fnOf "law" "law" (defArgs s_law) (defBody s_law) (defScope s_law) .none kVlaw dclaw pmlaw anlaw cdlaw ctlaw), sllaw⟩)
    (claw : PySem.W.codeIn K cdlaw "law" = true)
    (klaw : PySem.W.keepIn K (.ref flaw) = true)
    (zall : PySem.W.nsIn K mainGlobals "all" = some none)
    (zany : PySem.W.nsIn K mainGlobals "any" = some none)
    (zbool : PySem.W.nsIn K mainGlobals "bool" = some none)
    (zdict : PySem.W.nsIn K mainGlobals "dict" = some none)
    (zint : PySem.W.nsIn K mainGlobals "int" = some none)
    (zisinstance : PySem.W.nsIn K mainGlobals "isinstance" = some none)
    (zlen : PySem.W.nsIn K mainGlobals "len" = some none)
    (zlist : PySem.W.nsIn K mainGlobals "list" = some none)
    (zmax : PySem.W.nsIn K mainGlobals "max" = some none)
    (zmin : PySem.W.nsIn K mainGlobals "min" = some none)
    (zrange : PySem.W.nsIn K mainGlobals "range" = some none)
    (zrepr : PySem.W.nsIn K mainGlobals "repr" = some none)
    (zsorted : PySem.W.nsIn K mainGlobals "sorted" = some none)
    (zstr : PySem.W.nsIn K mainGlobals "str" = some none)
    (zsuper : PySem.W.nsIn K mainGlobals "super" = some none)
    (ztuple : PySem.W.nsIn K mainGlobals "tuple" = some none)
    (zzip : PySem.W.nsIn K mainGlobals "zip" = some none)
    (vCLETTERS : PySem.W.nsIn K mainGlobals "LETTERS" = some (some (.str ("abcdefghijklmnopqrstuvwxyz" : Str) tCLETTERS)))
    (vCSIGNS : PySem.W.nsIn K mainGlobals "SIGNS" = some (some (.str ("abcdefghijklmnopqrstuvwxyz0123456789." : Str) tCSIGNS)))
    (vCWORDS : PySem.W.nsIn K mainGlobals "WORDS" = some (some (.ref aCWORDS)))
    (xCWORDS : K.lookup aCWORDS = some ⟨.type "tuple", oCWORDS, .seq #[.str ("not" : Str) wWORDS0, .str ("and" : Str) wWORDS1, .str ("or" : Str) wWORDS2, .str ("rise" : Str) wWORDS3, .str ("fall" : Str) wWORDS4] nCWORDS, sCWORDS⟩)
    (vCEDGES : PySem.W.nsIn K mainGlobals "EDGES" = some (some (.ref aCEDGES)))
    (xCEDGES : K.lookup aCEDGES = some ⟨.type "tuple", oCEDGES, .seq #[.str ("rise" : Str) wEDGES0, .str ("fall" : Str) wEDGES1] nCEDGES, sCEDGES⟩)
    (vCJOINTS : PySem.W.nsIn K mainGlobals "JOINTS" = some (some (.ref aCJOINTS)))
    (xCJOINTS : K.lookup aCJOINTS = some ⟨.type "tuple", oCJOINTS, .seq #[.str ("and" : Str) wJOINTS0, .str ("or" : Str) wJOINTS1] nCJOINTS, sCJOINTS⟩)
    (vCDEEPEST : PySem.W.nsIn K mainGlobals "DEEPEST" = some (some (.int 40 tCDEEPEST)))
    (gARungsError : PySem.W.nsIn K mainGlobals "RungsError" = some (some (.ref ARungsError)))
    (gxBadName : PySem.W.nsIn K mainGlobals "BadName" = some (some (.ref CBadName)))
    (xlBadName : K.lookup CBadName = some (excClassObj nmBadName qBadName CBadName NBadName bsBadName [.ref ARungsError, .type "ValueError", .type "Exception", .type "BaseException", .type "object"] true snBadName subBadName abBadName colBadName ddBadName m0BadName m1BadName m2BadName m3BadName m5BadName "ValueError.__new__"))
    (saBadName : PySem.W.findIn K (.ref CBadName) "__setattr__" = some (some (.builtin "object.__setattr__")))
    (gaBadName : PySem.W.findIn K (.ref CBadName) "__getattribute__" = some (some (.builtin "BaseException.__getattribute__")))
    (ggBadName : PySem.W.findIn K (.ref CBadName) "__getattr__" = some none)
    (ebBadName : PySem.W.subIn K (.ref CBadName) (.type "BaseException") = some true)
    (tyBadName : PySem.W.typeIn K (.ref CBadName) = some (.type "type"))
    (kcBadName : PySem.W.keepIn K (.ref CBadName) = true)
    (hdBadName : PySem.W.hasDictIn K CBadName = true)
    (icBadName : PySem.W.isClsIn K CBadName = true)
    (inBadName : PySem.W.findIn K (.ref CBadName) "__init__" = some (some (.ref iBadName)))
    (tiBadName : PySem.W.typeIn K (.ref iBadName) = some (.type "function"))
    (liBadName : K.lookup iBadName = some ⟨oiBadName, diBadName, .func (PySem.W.fnX "__init__" "BadName.__init__" (defArgs s_BadName_init) (defBody s_BadName_init) (defScope s_BadName_init) [("__class__", ccBadName)] .none kViBadName dciBadName pmiBadName aniBadName (.ref cdaBadName) ctiBadName), sliBadName⟩)
    (ciBadName : PySem.W.codeIn K (.ref cdaBadName) "BadName.__init__" = true)
    (ldBadName : K.lookup cdaBadName = some ⟨cclBadName, cddBadName, .fields vsBadName, ccsBadName⟩)
    (vfBadName : vsBadName[2]? = some (.str fileBadName tfBadName))
    (hfBadName : ((P.main.file : Str) == fileBadName) = true)
    (lcBadName : K.lookup ccBadName = some ⟨clBadName, cldBadName, .cell (some (.ref CBadName)), cslBadName⟩)
    (suBadName : PySem.W.ks_superIn K CBadName CBadName "__init__" = some (some (.builtin "ValueError.__init__")))
    (veBadName : PySem.W.subIn K (.ref CBadName) (.type "ValueError") = some true)
    (mrBadName : PySem.W.mroIn K CBadName (.ref CBadName) = some true)
    (nnameBadName : PySem.W.findIn K (.ref CBadName) "name" = some none)
    (gxBadFormula : PySem.W.nsIn K mainGlobals "BadFormula" = some (some (.ref CBadFormula)))
    (xlBadFormula : K.lookup CBadFormula = some (excClassObj nmBadFormula qBadFormula CBadFormula NBadFormula bsBadFormula [.ref ARungsError, .type "ValueError", .type "Exception", .type "BaseException", .type "object"] true snBadFormula subBadFormula abBadFormula colBadFormula ddBadFormula m0BadFormula m1BadFormula m2BadFormula m3BadFormula m5BadFormula "ValueError.__new__"))
    (saBadFormula : PySem.W.findIn K (.ref CBadFormula) "__setattr__" = some (some (.builtin "object.__setattr__")))
    (gaBadFormula : PySem.W.findIn K (.ref CBadFormula) "__getattribute__" = some (some (.builtin "BaseException.__getattribute__")))
    (ggBadFormula : PySem.W.findIn K (.ref CBadFormula) "__getattr__" = some none)
    (ebBadFormula : PySem.W.subIn K (.ref CBadFormula) (.type "BaseException") = some true)
    (tyBadFormula : PySem.W.typeIn K (.ref CBadFormula) = some (.type "type"))
    (kcBadFormula : PySem.W.keepIn K (.ref CBadFormula) = true)
    (hdBadFormula : PySem.W.hasDictIn K CBadFormula = true)
    (icBadFormula : PySem.W.isClsIn K CBadFormula = true)
    (inBadFormula : PySem.W.findIn K (.ref CBadFormula) "__init__" = some (some (.ref iBadFormula)))
    (tiBadFormula : PySem.W.typeIn K (.ref iBadFormula) = some (.type "function"))
    (liBadFormula : K.lookup iBadFormula = some ⟨oiBadFormula, diBadFormula, .func (PySem.W.fnX "__init__" "BadFormula.__init__" (defArgs s_BadFormula_init) (defBody s_BadFormula_init) (defScope s_BadFormula_init) [("__class__", ccBadFormula)] .none kViBadFormula dciBadFormula pmiBadFormula aniBadFormula (.ref cdaBadFormula) ctiBadFormula), sliBadFormula⟩)
    (ciBadFormula : PySem.W.codeIn K (.ref cdaBadFormula) "BadFormula.__init__" = true)
    (ldBadFormula : K.lookup cdaBadFormula = some ⟨cclBadFormula, cddBadFormula, .fields vsBadFormula, ccsBadFormula⟩)
    (vfBadFormula : vsBadFormula[2]? = some (.str fileBadFormula tfBadFormula))
    (hfBadFormula : ((P.main.file : Str) == fileBadFormula) = true)
    (lcBadFormula : K.lookup ccBadFormula = some ⟨clBadFormula, cldBadFormula, .cell (some (.ref CBadFormula)), cslBadFormula⟩)
    (suBadFormula : PySem.W.ks_superIn K CBadFormula CBadFormula "__init__" = some (some (.builtin "ValueError.__init__")))
    (veBadFormula : PySem.W.subIn K (.ref CBadFormula) (.type "ValueError") = some true)
    (mrBadFormula : PySem.W.mroIn K CBadFormula (.ref CBadFormula) = some true)
    (gxTooMany : PySem.W.nsIn K mainGlobals "TooMany" = some (some (.ref CTooMany)))
    (xlTooMany : K.lookup CTooMany = some (excClassObj nmTooMany qTooMany CTooMany NTooMany bsTooMany [.ref ARungsError, .type "ValueError", .type "Exception", .type "BaseException", .type "object"] true snTooMany subTooMany abTooMany colTooMany ddTooMany m0TooMany m1TooMany m2TooMany m3TooMany m5TooMany "ValueError.__new__"))
    (saTooMany : PySem.W.findIn K (.ref CTooMany) "__setattr__" = some (some (.builtin "object.__setattr__")))
    (gaTooMany : PySem.W.findIn K (.ref CTooMany) "__getattribute__" = some (some (.builtin "BaseException.__getattribute__")))
    (ggTooMany : PySem.W.findIn K (.ref CTooMany) "__getattr__" = some none)
    (ebTooMany : PySem.W.subIn K (.ref CTooMany) (.type "BaseException") = some true)
    (tyTooMany : PySem.W.typeIn K (.ref CTooMany) = some (.type "type"))
    (kcTooMany : PySem.W.keepIn K (.ref CTooMany) = true)
    (hdTooMany : PySem.W.hasDictIn K CTooMany = true)
    (icTooMany : PySem.W.isClsIn K CTooMany = true)
    (inTooMany : PySem.W.findIn K (.ref CTooMany) "__init__" = some (some (.ref iTooMany)))
    (tiTooMany : PySem.W.typeIn K (.ref iTooMany) = some (.type "function"))
    (liTooMany : K.lookup iTooMany = some ⟨oiTooMany, diTooMany, .func (PySem.W.fnX "__init__" "TooMany.__init__" (defArgs s_TooMany_init) (defBody s_TooMany_init) (defScope s_TooMany_init) [("__class__", ccTooMany)] .none kViTooMany dciTooMany pmiTooMany aniTooMany (.ref cdaTooMany) ctiTooMany), sliTooMany⟩)
    (ciTooMany : PySem.W.codeIn K (.ref cdaTooMany) "TooMany.__init__" = true)
    (ldTooMany : K.lookup cdaTooMany = some ⟨cclTooMany, cddTooMany, .fields vsTooMany, ccsTooMany⟩)
    (vfTooMany : vsTooMany[2]? = some (.str fileTooMany tfTooMany))
    (hfTooMany : ((P.main.file : Str) == fileTooMany) = true)
    (lcTooMany : K.lookup ccTooMany = some ⟨clTooMany, cldTooMany, .cell (some (.ref CTooMany)), cslTooMany⟩)
    (suTooMany : PySem.W.ks_superIn K CTooMany CTooMany "__init__" = some (some (.builtin "ValueError.__init__")))
    (veTooMany : PySem.W.subIn K (.ref CTooMany) (.type "ValueError") = some true)
    (mrTooMany : PySem.W.mroIn K CTooMany (.ref CTooMany) = some true)
    (nlimitTooMany : PySem.W.findIn K (.ref CTooMany) "limit" = some none)
    (eaRungsError : PySem.W.subIn K (.ref ARungsError) (.type "BaseException") = some true)
    (iaRungsError : PySem.W.isClsIn K ARungsError = true)
    (yaRungsError : PySem.W.typeIn K (.ref ARungsError) = some (.type "type"))
    (saBadNameRungsError : PySem.W.subIn K (.ref CBadName) (.ref ARungsError) = some true)
    (saBadFormulaRungsError : PySem.W.subIn K (.ref CBadFormula) (.ref ARungsError) = some true)
    (saTooManyRungsError : PySem.W.subIn K (.ref CTooMany) (.ref ARungsError) = some true)
    (opq : PySem.W.nsIn K cStatics "thirdparty.any" = some none)
    (sBadNameBadName : PySem.W.subIn K (.ref CBadName) (.ref CBadName) = some true)
    (sBadNameBadFormula : PySem.W.subIn K (.ref CBadName) (.ref CBadFormula) = some false)
    (sBadNameTooMany : PySem.W.subIn K (.ref CBadName) (.ref CTooMany) = some false)
    (sBadFormulaBadName : PySem.W.subIn K (.ref CBadFormula) (.ref CBadName) = some false)
    (sBadFormulaBadFormula : PySem.W.subIn K (.ref CBadFormula) (.ref CBadFormula) = some true)
    (sBadFormulaTooMany : PySem.W.subIn K (.ref CBadFormula) (.ref CTooMany) = some false)
    (sTooManyBadName : PySem.W.subIn K (.ref CTooMany) (.ref CBadName) = some false)
    (sTooManyBadFormula : PySem.W.subIn K (.ref CTooMany) (.ref CBadFormula) = some false)
    (sTooManyTooMany : PySem.W.subIn K (.ref CTooMany) (.ref CTooMany) = some true)
    (top : (P.main.scope.names.lookup ("super" : Str)).isSome = false) :
    ∃ fd : FuncData, (∀ (s : Shared) (v : Value), BindsTo s fd ⟨[v], []⟩ [("script", v)]) ∧ ∀ base : Heap, K.In base → base.Ns mainGlobals mg → RG.FnG P w K mg base (CX P w) 90 fa fd ["script"] (spLaw K) := by
  have e := hfa.symm.trans (PySem.W.mg_of X G alaw)
  cases e
  have Fpis_whole := fun_mk (st := s_is_whole) lpis_whole cpis_whole kpis_whole
  have bpis_whole := Fpis_whole.binds (ps := ["value", "least", "most"]) fun _ _ _ _ _ _ us hl => match us, hl with | [_, _, _], _ => rfl
  have Fpis_bit := fun_mk (st := s_is_bit) lpis_bit cpis_bit kpis_bit
  have bpis_bit := Fpis_bit.binds (ps := ["value"]) fun _ _ _ _ _ _ us hl => match us, hl with | [_], _ => rfl
  have Fpcolumns_of := fun_mk (st := s_columns_of) lpcolumns_of cpcolumns_of kpcolumns_of
  have bpcolumns_of := Fpcolumns_of.binds (ps := ["many"]) fun _ _ _ _ _ _ us hl => match us, hl with | [_], _ => rfl
  have Fpis_name := fun_mk (st := s_is_name) lpis_name cpis_name kpis_name
  have bpis_name := Fpis_name.binds (ps := ["value"]) fun _ _ _ _ _ _ us hl => match us, hl with | [_], _ => rfl
  have Fpis_formula : FunD K "is_formula" "is_formula" (defArgs s_is_formula) (defBody s_is_formula) (defScope s_is_formula) [.non, .int 40] [] fpis_formula _ := ⟨⟨_, _, _, _, _, _, _, _, _, _, rfl, lpis_formula, cpis_formula, .inr ⟨by simp, _, _, [Value.none, .int 40 dkpis_formula1], _, rfl, dtpis_formula, rfl, (.cons rfl (.cons ⟨_, rfl⟩ .nil))⟩, .inl rfl⟩, kpis_formula⟩
  obtain ⟨dspis_formula, vpis_formula, bpis_formula⟩ := Fpis_formula.binds1 (ps := ["value", "names", "depth"]) 1 0 (by simp) rfl fun _ _ _ _ _ _ _ us its h1 h2 => match us, its, h1, h2 with | [_], [_, _], _, _ => ⟨_, rfl, rfl⟩
  have Fp_is_part := fun_mk (st := s__is_part) lp_is_part cp_is_part kp_is_part
  have bp_is_part := Fp_is_part.binds (ps := ["part", "names"]) fun _ _ _ _ _ _ us hl => match us, hl with | [_, _], _ => rfl
  have Fpcheck_formula := fun_mk (st := s_check_formula) lpcheck_formula cpcheck_formula kpcheck_formula
  have bpcheck_formula := Fpcheck_formula.binds (ps := ["formula"]) fun _ _ _ _ _ _ us hl => match us, hl with | [_], _ => rfl
  have Fpleaves_of := fun_mk (st := s_leaves_of) lpleaves_of cpleaves_of kpleaves_of
  have bpleaves_of := Fpleaves_of.binds (ps := ["formula"]) fun _ _ _ _ _ _ us hl => match us, hl with | [_], _ => rfl
  have Fphas_edges := fun_mk (st := s_has_edges) lphas_edges cphas_edges kphas_edges
  have bphas_edges := Fphas_edges.binds (ps := ["formula"]) fun _ _ _ _ _ _ us hl => match us, hl with | [_], _ => rfl
  have Fpis_plain := fun_mk (st := s_is_plain) lpis_plain cpis_plain kpis_plain
  have bpis_plain := Fpis_plain.binds (ps := ["formula"]) fun _ _ _ _ _ _ us hl => match us, hl with | [_], _ => rfl
  have Fpcheck_plain := fun_mk (st := s_check_plain) lpcheck_plain cpcheck_plain kpcheck_plain
  have bpcheck_plain := Fpcheck_plain.binds (ps := ["formula"]) fun _ _ _ _ _ _ us hl => match us, hl with | [_], _ => rfl
  have Fptold_names := fun_mk (st := s_told_names) lptold_names cptold_names kptold_names
  have bptold_names := Fptold_names.binds (ps := ["formula"]) fun _ _ _ _ _ _ us hl => match us, hl with | [_], _ => rfl
  have Fpnames_of := fun_mk (st := s_names_of) lpnames_of cpnames_of kpnames_of
  have bpnames_of := Fpnames_of.binds (ps := ["formula"]) fun _ _ _ _ _ _ us hl => match us, hl with | [_], _ => rfl
  have Fpworked := fun_mk (st := s_worked) lpworked cpworked kpworked
  have bpworked := Fpworked.binds (ps := ["formula", "bits", "seen", "full"]) fun _ _ _ _ _ _ us hl => match us, hl with | [_, _, _, _], _ => rfl
  have Fpbit_of := fun_mk (st := s_bit_of) lpbit_of cpbit_of kpbit_of
  have bpbit_of := Fpbit_of.binds (ps := ["formula", "bits"]) fun _ _ _ _ _ _ us hl => match us, hl with | [_, _], _ => rfl
  have Fp_turned := fun_mk (st := s__turned) lp_turned cp_turned kp_turned
  have bp_turned := Fp_turned.binds (ps := ["formula"]) fun _ _ _ _ _ _ us hl => match us, hl with | [_], _ => rfl
  have Fpturned := fun_mk (st := s_turned) lpturned cpturned kpturned
  have bpturned := Fpturned.binds (ps := ["formula"]) fun _ _ _ _ _ _ us hl => match us, hl with | [_], _ => rfl
  have Fp_joined := fun_mk (st := s__joined) lp_joined cp_joined kp_joined
  have bp_joined := Fp_joined.binds (ps := ["joint", "formulas", "bit"]) fun _ _ _ _ _ _ us hl => match us, hl with | [_, _, _], _ => rfl
  have Fpall_of := fun_mk (st := s_all_of) lpall_of cpall_of kpall_of
  have bpall_of := bind_star0 (B := fun vs => bindArgs (PySem.W.fnOf "all_of" "all_of" (defArgs s_all_of) (defBody s_all_of) (defScope s_all_of) .none kVpall_of dcpall_of pmpall_of anpall_of cdpall_of ctpall_of) ⟨vs, []⟩) (pv := "formulas") rfl fun r rs => rfl
  have Fpany_of := fun_mk (st := s_any_of) lpany_of cpany_of kpany_of
  have bpany_of := bind_star0 (B := fun vs => bindArgs (PySem.W.fnOf "any_of" "any_of" (defArgs s_any_of) (defBody s_any_of) (defScope s_any_of) .none kVpany_of dcpany_of pmpany_of anpany_of cdpany_of ctpany_of) ⟨vs, []⟩) (pv := "formulas") rfl fun r rs => rfl
  have Fp_column := fun_mk (st := s__column) lp_column cp_column kp_column
  have bp_column := Fp_column.binds (ps := ["formula", "order"]) fun _ _ _ _ _ _ us hl => match us, hl with | [_, _], _ => rfl
  have Fphangs_on := fun_mk (st := s_hangs_on) lphangs_on cphangs_on kphangs_on
  have bphangs_on := Fphangs_on.binds (ps := ["formula", "name"]) fun _ _ _ _ _ _ us hl => match us, hl with | [_, _], _ => rfl
  have Fp_law_numbers := fun_mk (st := s__law_numbers) lp_law_numbers cp_law_numbers kp_law_numbers
  have bp_law_numbers := Fp_law_numbers.binds (ps := ["script"]) fun _ _ _ _ _ _ us hl => match us, hl with | [_], _ => rfl
  have Fp_law_draw := fun_mk (st := s__law_draw) lp_law_draw cp_law_draw kp_law_draw
  have bp_law_draw := Fp_law_draw.binds (ps := ["numbers", "many"]) fun _ _ _ _ _ _ us hl => match us, hl with | [_, _], _ => rfl
  have Fp_law_int := fun_mk (st := s__law_int) lp_law_int cp_law_int kp_law_int
  have bp_law_int := Fp_law_int.binds (ps := ["value"]) fun _ _ _ _ _ _ us hl => match us, hl with | [_], _ => rfl
  have Fp_law_all_rows := fun_mk (st := s__law_all_rows) lp_law_all_rows cp_law_all_rows kp_law_all_rows
  have bp_law_all_rows := Fp_law_all_rows.binds (ps := ["many"]) fun _ _ _ _ _ _ us hl => match us, hl with | [_], _ => rfl
  have Fp_law_pool := fun_mk (st := s__law_pool) lp_law_pool cp_law_pool kp_law_pool
  have bp_law_pool := Fp_law_pool.binds (ps := ["numbers", "total"]) fun _ _ _ _ _ _ us hl => match us, hl with | [_, _], _ => rfl
  have Fp_law_leaf := fun_mk (st := s__law_leaf) lp_law_leaf cp_law_leaf kp_law_leaf
  have bp_law_leaf := Fp_law_leaf.binds (ps := ["numbers", "names", "edges"]) fun _ _ _ _ _ _ us hl => match us, hl with | [_, _, _], _ => rfl
  have Fp_law_formula := fun_mk (st := s__law_formula) lp_law_formula cp_law_formula kp_law_formula
  have bp_law_formula := Fp_law_formula.binds (ps := ["numbers", "names", "edges"]) fun _ _ _ _ _ _ us hl => match us, hl with | [_, _, _], _ => rfl
  have Fp_law_worth := fun_mk (st := s__law_worth) lp_law_worth cp_law_worth kp_law_worth
  have bp_law_worth := Fp_law_worth.binds (ps := ["formula", "bits", "seen"]) fun _ _ _ _ _ _ us hl => match us, hl with | [_, _, _], _ => rfl
  have Fp_law_turned := fun_mk (st := s__law_turned) lp_law_turned cp_law_turned kp_law_turned
  have bp_law_turned := Fp_law_turned.binds (ps := ["formula"]) fun _ _ _ _ _ _ us hl => match us, hl with | [_], _ => rfl
  have Fp_law_names := fun_mk (st := s__law_names) lp_law_names cp_law_names kp_law_names
  have bp_law_names := Fp_law_names.binds (ps := ["formula"]) fun _ _ _ _ _ _ us hl => match us, hl with | [_], _ => rfl
  have Fp_law_deep := fun_mk (st := s__law_deep) lp_law_deep cp_law_deep kp_law_deep
  have bp_law_deep := Fp_law_deep.binds (ps := ["numbers", "leaf", "other", "depth"]) fun _ _ _ _ _ _ us hl => match us, hl with | [_, _, _, _], _ => rfl
  have Fp_law_word := fun_mk (st := s__law_word) lp_law_word cp_law_word kp_law_word
  have bp_law_word := Fp_law_word.binds (ps := ["turn", "formula", "second"]) fun _ _ _ _ _ _ us hl => match us, hl with | [_, _, _], _ => rfl
  have Fp_law_bits_right := fun_mk (st := s__law_bits_right) lp_law_bits_right cp_law_bits_right kp_law_bits_right
  have bp_law_bits_right := Fp_law_bits_right.binds (ps := ["formula", "names", "others"]) fun _ _ _ _ _ _ us hl => match us, hl with | [_, _, _], _ => rfl
  have Fp_law_lacking_right := fun_mk (st := s__law_lacking_right) lp_law_lacking_right cp_law_lacking_right kp_law_lacking_right
  have bp_law_lacking_right := Fp_law_lacking_right.binds (ps := ["numbers", "formula", "names", "others"]) fun _ _ _ _ _ _ us hl => match us, hl with | [_, _, _, _], _ => rfl
  have Fp_law_joint_right := fun_mk (st := s__law_joint_right) lp_law_joint_right cp_law_joint_right kp_law_joint_right
  have bp_law_joint_right := Fp_law_joint_right.binds (ps := ["parts"]) fun _ _ _ _ _ _ us hl => match us, hl with | [_], _ => rfl
  have Fp_law_refused_right := fun_mk (st := s__law_refused_right) lp_law_refused_right cp_law_refused_right kp_law_refused_right
  have bp_law_refused_right := Fp_law_refused_right.binds (ps := ["name", "other", "leaf"]) fun _ _ _ _ _ _ us hl => match us, hl with | [_, _, _], _ => rfl
  have Fp_law_closed_right := fun_mk (st := s__law_closed_right) lp_law_closed_right cp_law_closed_right kp_law_closed_right
  have bp_law_closed_right := Fp_law_closed_right.binds (ps := ["x", "y"]) fun _ _ _ _ _ _ us hl => match us, hl with | [_, _], _ => rfl
  have Fp_law_depths_right := fun_mk (st := s__law_depths_right) lp_law_depths_right cp_law_depths_right kp_law_depths_right
  have bp_law_depths_right := Fp_law_depths_right.binds (ps := ["numbers", "name", "other"]) fun _ _ _ _ _ _ us hl => match us, hl with | [_, _, _], _ => rfl
  have Flaw := fun_mk (st := s_law) llaw claw klaw
  have B : Bl mg := { all := PySem.W.mg_none_of X G zall, any := PySem.W.mg_none_of X G zany, bool := PySem.W.mg_none_of X G zbool, dict := PySem.W.mg_none_of X G zdict, int := PySem.W.mg_none_of X G zint, isinstance := PySem.W.mg_none_of X G zisinstance, len := PySem.W.mg_none_of X G zlen, list := PySem.W.mg_none_of X G zlist, max := PySem.W.mg_none_of X G zmax, min := PySem.W.mg_none_of X G zmin, range := PySem.W.mg_none_of X G zrange, repr := PySem.W.mg_none_of X G zrepr, sorted := PySem.W.mg_none_of X G zsorted, str := PySem.W.mg_none_of X G zstr, tuple := PySem.W.mg_none_of X G ztuple, zip := PySem.W.mg_none_of X G zzip }
  have OBadName : OexC K CBadName := { cls := ⟨_, _, _, _, _, _, _, _, _, _, _, _, _, _, _, xlBadName, rfl⟩, sa := saBadName, exC := ebBadName, tyC := tyBadName, kC := kcBadName }
  have SBadName : Sup P K mg CBadName iBadName "BadName.__init__" s_BadName_init (PySem.W.fnX "__init__" "BadName.__init__" (defArgs s_BadName_init) (defBody s_BadName_init) (defScope s_BadName_init) [("__class__", ccBadName)] .none kViBadName dciBadName pmiBadName aniBadName (.ref cdaBadName) ctiBadName) :=
    { O := OBadName, iC := inBadName, tI := tiBadName, ex := ⟨_, _, _, _, _, _, _, _, _, _, _, _, _, _, _, _, _, _, _, rfl, liBadName, ciBadName, ldBadName, vfBadName, hfBadName, lcBadName⟩, sup := suBadName, opq := opq, sVE := veBadName, mro := mrBadName, sG := PySem.W.mg_none_of X G zsuper, top := top }
  have bxBadName : Binds K (PySem.W.fnX "__init__" "BadName.__init__" (defArgs s_BadName_init) (defBody s_BadName_init) (defScope s_BadName_init) [("__class__", ccBadName)] .none kViBadName dciBadName pmiBadName aniBadName (.ref cdaBadName) ctiBadName) ["self", "name"] [] := fun s us _ hl => by
    rw [List.append_nil] at hl ⊢
    exact match us, hl with | [_, _], _ => .of_eq rfl
  have nfBadName : ∀ y ∈ (["name"] : List Str), PySem.W.findIn K (.ref CBadName) y = some none := by
    intro y hy
    simp only [List.mem_cons, List.not_mem_nil, or_false] at hy
    subst hy
    exact nnameBadName
  let EBadName : Ke P K mg "BadName" "BadName.__init__" s_BadName_init ["self", "name"] ["name"] := { C := CBadName, f := iBadName, fd := _, T := SBadName, b := bxBadName, nf := nfBadName, g := PySem.W.mg_of X G gxBadName, X := ⟨gaBadName, ggBadName, ebBadName, hdBadName⟩ }
  have OBadFormula : OexC K CBadFormula := { cls := ⟨_, _, _, _, _, _, _, _, _, _, _, _, _, _, _, xlBadFormula, rfl⟩, sa := saBadFormula, exC := ebBadFormula, tyC := tyBadFormula, kC := kcBadFormula }
  have SBadFormula : Sup P K mg CBadFormula iBadFormula "BadFormula.__init__" s_BadFormula_init (PySem.W.fnX "__init__" "BadFormula.__init__" (defArgs s_BadFormula_init) (defBody s_BadFormula_init) (defScope s_BadFormula_init) [("__class__", ccBadFormula)] .none kViBadFormula dciBadFormula pmiBadFormula aniBadFormula (.ref cdaBadFormula) ctiBadFormula) :=
    { O := OBadFormula, iC := inBadFormula, tI := tiBadFormula, ex := ⟨_, _, _, _, _, _, _, _, _, _, _, _, _, _, _, _, _, _, _, rfl, liBadFormula, ciBadFormula, ldBadFormula, vfBadFormula, hfBadFormula, lcBadFormula⟩, sup := suBadFormula, opq := opq, sVE := veBadFormula, mro := mrBadFormula, sG := PySem.W.mg_none_of X G zsuper, top := top }
  have bxBadFormula : Binds K (PySem.W.fnX "__init__" "BadFormula.__init__" (defArgs s_BadFormula_init) (defBody s_BadFormula_init) (defScope s_BadFormula_init) [("__class__", ccBadFormula)] .none kViBadFormula dciBadFormula pmiBadFormula aniBadFormula (.ref cdaBadFormula) ctiBadFormula) ["self"] [] := fun s us _ hl => by
    rw [List.append_nil] at hl ⊢
    exact match us, hl with | [_], _ => .of_eq rfl
  have nfBadFormula : ∀ y ∈ ([] : List Str), PySem.W.findIn K (.ref CBadFormula) y = some none := by
    intro y hy
    simp only [List.mem_cons, List.not_mem_nil, or_false] at hy
  let EBadFormula : Ke P K mg "BadFormula" "BadFormula.__init__" s_BadFormula_init ["self"] [] := { C := CBadFormula, f := iBadFormula, fd := _, T := SBadFormula, b := bxBadFormula, nf := nfBadFormula, g := PySem.W.mg_of X G gxBadFormula, X := ⟨gaBadFormula, ggBadFormula, ebBadFormula, hdBadFormula⟩ }
  have OTooMany : OexC K CTooMany := { cls := ⟨_, _, _, _, _, _, _, _, _, _, _, _, _, _, _, xlTooMany, rfl⟩, sa := saTooMany, exC := ebTooMany, tyC := tyTooMany, kC := kcTooMany }
  have STooMany : Sup P K mg CTooMany iTooMany "TooMany.__init__" s_TooMany_init (PySem.W.fnX "__init__" "TooMany.__init__" (defArgs s_TooMany_init) (defBody s_TooMany_init) (defScope s_TooMany_init) [("__class__", ccTooMany)] .none kViTooMany dciTooMany pmiTooMany aniTooMany (.ref cdaTooMany) ctiTooMany) :=
    { O := OTooMany, iC := inTooMany, tI := tiTooMany, ex := ⟨_, _, _, _, _, _, _, _, _, _, _, _, _, _, _, _, _, _, _, rfl, liTooMany, ciTooMany, ldTooMany, vfTooMany, hfTooMany, lcTooMany⟩, sup := suTooMany, opq := opq, sVE := veTooMany, mro := mrTooMany, sG := PySem.W.mg_none_of X G zsuper, top := top }
  have bxTooMany : Binds K (PySem.W.fnX "__init__" "TooMany.__init__" (defArgs s_TooMany_init) (defBody s_TooMany_init) (defScope s_TooMany_init) [("__class__", ccTooMany)] .none kViTooMany dciTooMany pmiTooMany aniTooMany (.ref cdaTooMany) ctiTooMany) ["self", "limit"] [] := fun s us _ hl => by
    rw [List.append_nil] at hl ⊢
    exact match us, hl with | [_, _], _ => .of_eq rfl
  have nfTooMany : ∀ y ∈ (["limit"] : List Str), PySem.W.findIn K (.ref CTooMany) y = some none := by
    intro y hy
    simp only [List.mem_cons, List.not_mem_nil, or_false] at hy
    subst hy
    exact nlimitTooMany
  let ETooMany : Ke P K mg "TooMany" "TooMany.__init__" s_TooMany_init ["self", "limit"] ["limit"] := { C := CTooMany, f := iTooMany, fd := _, T := STooMany, b := bxTooMany, nf := nfTooMany, g := PySem.W.mg_of X G gxTooMany, X := ⟨gaTooMany, ggTooMany, ebTooMany, hdTooMany⟩ }
  let PR : Pr P K mg := { B := B, BadName := EBadName, BadFormula := EBadFormula, TooMany := ETooMany, x_BadName_BadName := exm_of ebBadName icBadName tyBadName sBadNameBadName, x_BadName_BadFormula := exm_of ebBadFormula icBadFormula tyBadFormula sBadNameBadFormula, x_BadName_TooMany := exm_of ebTooMany icTooMany tyTooMany sBadNameTooMany, x_BadFormula_BadName := exm_of ebBadName icBadName tyBadName sBadFormulaBadName, x_BadFormula_BadFormula := exm_of ebBadFormula icBadFormula tyBadFormula sBadFormulaBadFormula, x_BadFormula_TooMany := exm_of ebTooMany icTooMany tyTooMany sBadFormulaTooMany, x_TooMany_BadName := exm_of ebBadName icBadName tyBadName sTooManyBadName, x_TooMany_BadFormula := exm_of ebBadFormula icBadFormula tyBadFormula sTooManyBadFormula, x_TooMany_TooMany := exm_of ebTooMany icTooMany tyTooMany sTooManyTooMany, k_LETTERS := ⟨tCLETTERS, PySem.W.mg_of X G vCLETTERS⟩, k_SIGNS := ⟨tCSIGNS, PySem.W.mg_of X G vCSIGNS⟩, k_WORDS := ⟨aCWORDS, PySem.W.mg_of X G vCWORDS, fun H => .inr ⟨_, _, _, xCWORDS, rfl, rfl, by show 5 ≤ sizeLine; decide, (.cons ⟨_, rfl⟩ (.cons ⟨_, rfl⟩ (.cons ⟨_, rfl⟩ (.cons ⟨_, rfl⟩ (.cons ⟨_, rfl⟩ .nil)))))⟩⟩, k_EDGES := ⟨aCEDGES, PySem.W.mg_of X G vCEDGES, fun H => .inr ⟨_, _, _, xCEDGES, rfl, rfl, by show 2 ≤ sizeLine; decide, (.cons ⟨_, rfl⟩ (.cons ⟨_, rfl⟩ .nil))⟩⟩, k_JOINTS := ⟨aCJOINTS, PySem.W.mg_of X G vCJOINTS, fun H => .inr ⟨_, _, _, xCJOINTS, rfl, rfl, by show 2 ≤ sizeLine; decide, (.cons ⟨_, rfl⟩ (.cons ⟨_, rfl⟩ .nil))⟩⟩, k_DEEPEST := ⟨tCDEEPEST, PySem.W.mg_of X G vCDEEPEST⟩, is_formula := { f := fpis_formula, fd := _, ds := dspis_formula, F := Fpis_formula, b := bpis_formula, v := vpis_formula, g := PySem.W.mg_of X G apis_formula }, a_RungsError := ⟨ARungsError, PySem.W.mg_of X G gARungsError⟩, x_BadName_RungsError := exm_of eaRungsError iaRungsError yaRungsError saBadNameRungsError, x_BadFormula_RungsError := exm_of eaRungsError iaRungsError yaRungsError saBadFormulaRungsError, x_TooMany_RungsError := exm_of eaRungsError iaRungsError yaRungsError saTooManyRungsError, is_whole := { f := fpis_whole, fd := _, F := Fpis_whole, b := bpis_whole, g := PySem.W.mg_of X G apis_whole }, is_bit := { f := fpis_bit, fd := _, F := Fpis_bit, b := bpis_bit, g := PySem.W.mg_of X G apis_bit }, columns_of := { f := fpcolumns_of, fd := _, F := Fpcolumns_of, b := bpcolumns_of, g := PySem.W.mg_of X G apcolumns_of }, is_name := { f := fpis_name, fd := _, F := Fpis_name, b := bpis_name, g := PySem.W.mg_of X G apis_name }, _is_part := { f := fp_is_part, fd := _, F := Fp_is_part, b := bp_is_part, g := PySem.W.mg_of X G ap_is_part }, check_formula := { f := fpcheck_formula, fd := _, F := Fpcheck_formula, b := bpcheck_formula, g := PySem.W.mg_of X G apcheck_formula }, leaves_of := { f := fpleaves_of, fd := _, F := Fpleaves_of, b := bpleaves_of, g := PySem.W.mg_of X G apleaves_of }, has_edges := { f := fphas_edges, fd := _, F := Fphas_edges, b := bphas_edges, g := PySem.W.mg_of X G aphas_edges }, is_plain := { f := fpis_plain, fd := _, F := Fpis_plain, b := bpis_plain, g := PySem.W.mg_of X G apis_plain }, check_plain := { f := fpcheck_plain, fd := _, F := Fpcheck_plain, b := bpcheck_plain, g := PySem.W.mg_of X G apcheck_plain }, told_names := { f := fptold_names, fd := _, F := Fptold_names, b := bptold_names, g := PySem.W.mg_of X G aptold_names }, names_of := { f := fpnames_of, fd := _, F := Fpnames_of, b := bpnames_of, g := PySem.W.mg_of X G apnames_of }, worked := { f := fpworked, fd := _, F := Fpworked, b := bpworked, g := PySem.W.mg_of X G apworked }, bit_of := { f := fpbit_of, fd := _, F := Fpbit_of, b := bpbit_of, g := PySem.W.mg_of X G apbit_of }, _turned := { f := fp_turned, fd := _, F := Fp_turned, b := bp_turned, g := PySem.W.mg_of X G ap_turned }, turned := { f := fpturned, fd := _, F := Fpturned, b := bpturned, g := PySem.W.mg_of X G apturned }, _joined := { f := fp_joined, fd := _, F := Fp_joined, b := bp_joined, g := PySem.W.mg_of X G ap_joined }, all_of := { f := fpall_of, fd := _, F := Fpall_of, b := bpall_of, g := PySem.W.mg_of X G apall_of }, any_of := { f := fpany_of, fd := _, F := Fpany_of, b := bpany_of, g := PySem.W.mg_of X G apany_of }, _column := { f := fp_column, fd := _, F := Fp_column, b := bp_column, g := PySem.W.mg_of X G ap_column }, hangs_on := { f := fphangs_on, fd := _, F := Fphangs_on, b := bphangs_on, g := PySem.W.mg_of X G aphangs_on }, _law_numbers := { f := fp_law_numbers, fd := _, F := Fp_law_numbers, b := bp_law_numbers, g := PySem.W.mg_of X G ap_law_numbers }, _law_draw := { f := fp_law_draw, fd := _, F := Fp_law_draw, b := bp_law_draw, g := PySem.W.mg_of X G ap_law_draw }, _law_int := { f := fp_law_int, fd := _, F := Fp_law_int, b := bp_law_int, g := PySem.W.mg_of X G ap_law_int }, _law_all_rows := { f := fp_law_all_rows, fd := _, F := Fp_law_all_rows, b := bp_law_all_rows, g := PySem.W.mg_of X G ap_law_all_rows }, _law_pool := { f := fp_law_pool, fd := _, F := Fp_law_pool, b := bp_law_pool, g := PySem.W.mg_of X G ap_law_pool }, _law_leaf := { f := fp_law_leaf, fd := _, F := Fp_law_leaf, b := bp_law_leaf, g := PySem.W.mg_of X G ap_law_leaf }, _law_formula := { f := fp_law_formula, fd := _, F := Fp_law_formula, b := bp_law_formula, g := PySem.W.mg_of X G ap_law_formula }, _law_worth := { f := fp_law_worth, fd := _, F := Fp_law_worth, b := bp_law_worth, g := PySem.W.mg_of X G ap_law_worth }, _law_turned := { f := fp_law_turned, fd := _, F := Fp_law_turned, b := bp_law_turned, g := PySem.W.mg_of X G ap_law_turned }, _law_names := { f := fp_law_names, fd := _, F := Fp_law_names, b := bp_law_names, g := PySem.W.mg_of X G ap_law_names }, _law_deep := { f := fp_law_deep, fd := _, F := Fp_law_deep, b := bp_law_deep, g := PySem.W.mg_of X G ap_law_deep }, _law_word := { f := fp_law_word, fd := _, F := Fp_law_word, b := bp_law_word, g := PySem.W.mg_of X G ap_law_word }, _law_bits_right := { f := fp_law_bits_right, fd := _, F := Fp_law_bits_right, b := bp_law_bits_right, g := PySem.W.mg_of X G ap_law_bits_right }, _law_lacking_right := { f := fp_law_lacking_right, fd := _, F := Fp_law_lacking_right, b := bp_law_lacking_right, g := PySem.W.mg_of X G ap_law_lacking_right }, _law_joint_right := { f := fp_law_joint_right, fd := _, F := Fp_law_joint_right, b := bp_law_joint_right, g := PySem.W.mg_of X G ap_law_joint_right }, _law_refused_right := { f := fp_law_refused_right, fd := _, F := Fp_law_refused_right, b := bp_law_refused_right, g := PySem.W.mg_of X G ap_law_refused_right }, _law_closed_right := { f := fp_law_closed_right, fd := _, F := Fp_law_closed_right, b := bp_law_closed_right, g := PySem.W.mg_of X G ap_law_closed_right }, _law_depths_right := { f := fp_law_depths_right, fd := _, F := Fp_law_depths_right, b := bp_law_depths_right, g := PySem.W.mg_of X G ap_law_depths_right } }
  exact ⟨_, fun s v => .of_eq rfl, fun base _ _ => ok_law PR Flaw⟩
end K7

set_option Elab.async false
set_option linter.all false
open PySem PySem.W PyProof.Rows
set_option maxRecDepth 100000
set_option maxHeartbeats 0 in
theorem PySem.Challenge.cw_guardrungs_k02_turned_and_hanging_holds : PySem.Challenge.rw_guardrungs_k02_turned_and_hanging.Holds := by
  w_on; o_law; k_head; (case hw => w_witness2)
  k_fill
  refine RG.walkG (T := fun w => L2.CX PySem.Challenge.rw_guardrungs_k02_turned_and_hanging.prog w) (l := PySem.Challenge.rw_guardrungs_k02_turned_and_hanging) (n := 63) (k := 90) (x := "script") (sp := fun w => K7.spLaw _) rfl (by decide) rfl ⟨rfl, by decide, by decide⟩ (fun w h Y => PySem.W.kIn_of Y) ?F (fun _ _ a ns hl _ hS => ⟨a, ns, rfl, hS, hl, fun _ => rfl⟩) (fun _ _ _ _ _ h => by obtain ⟨_, _, _, _, _, _, _, _, _, _, _, _, z⟩ := h; exact z)
  case F =>
    intro w mg fa h KX G hmg
    refine' K7.all_mk KX G hmg ?apis_whole ?lpis_whole ?cpis_whole ?kpis_whole ?apis_bit ?lpis_bit ?cpis_bit ?kpis_bit ?apcolumns_of ?lpcolumns_of ?cpcolumns_of ?kpcolumns_of ?apis_name ?lpis_name ?cpis_name ?kpis_name ?apis_formula ?dtpis_formula ?lpis_formula ?cpis_formula ?kpis_formula ?ap_is_part ?lp_is_part ?cp_is_part ?kp_is_part ?apcheck_formula ?lpcheck_formula ?cpcheck_formula ?kpcheck_formula ?apleaves_of ?lpleaves_of ?cpleaves_of ?kpleaves_of ?aphas_edges ?lphas_edges ?cphas_edges ?kphas_edges ?apis_plain ?lpis_plain ?cpis_plain ?kpis_plain ?apcheck_plain ?lpcheck_plain ?cpcheck_plain ?kpcheck_plain ?aptold_names ?lptold_names ?cptold_names ?kptold_names ?apnames_of ?lpnames_of ?cpnames_of ?kpnames_of ?apworked ?lpworked ?cpworked ?kpworked ?apbit_of ?lpbit_of ?cpbit_of ?kpbit_of ?ap_turned ?lp_turned ?cp_turned ?kp_turned ?apturned ?lpturned ?cpturned ?kpturned ?ap_joined ?lp_joined ?cp_joined ?kp_joined ?apall_of ?lpall_of ?cpall_of ?kpall_of ?apany_of ?lpany_of ?cpany_of ?kpany_of ?ap_column ?lp_column ?cp_column ?kp_column ?aphangs_on ?lphangs_on ?cphangs_on ?kphangs_on ?ap_law_numbers ?lp_law_numbers ?cp_law_numbers ?kp_law_numbers ?ap_law_draw ?lp_law_draw ?cp_law_draw ?kp_law_draw ?ap_law_int ?lp_law_int ?cp_law_int ?kp_law_int ?ap_law_all_rows ?lp_law_all_rows ?cp_law_all_rows ?kp_law_all_rows ?ap_law_pool ?lp_law_pool ?cp_law_pool ?kp_law_pool ?ap_law_leaf ?lp_law_leaf ?cp_law_leaf ?kp_law_leaf ?ap_law_formula ?lp_law_formula ?cp_law_formula ?kp_law_formula ?ap_law_worth ?lp_law_worth ?cp_law_worth ?kp_law_worth ?ap_law_turned ?lp_law_turned ?cp_law_turned ?kp_law_turned ?ap_law_names ?lp_law_names ?cp_law_names ?kp_law_names ?ap_law_deep ?lp_law_deep ?cp_law_deep ?kp_law_deep ?ap_law_word ?lp_law_word ?cp_law_word ?kp_law_word ?ap_law_bits_right ?lp_law_bits_right ?cp_law_bits_right ?kp_law_bits_right ?ap_law_lacking_right ?lp_law_lacking_right ?cp_law_lacking_right ?kp_law_lacking_right ?ap_law_joint_right ?lp_law_joint_right ?cp_law_joint_right ?kp_law_joint_right ?ap_law_refused_right ?lp_law_refused_right ?cp_law_refused_right ?kp_law_refused_right ?ap_law_closed_right ?lp_law_closed_right ?cp_law_closed_right ?kp_law_closed_right ?ap_law_depths_right ?lp_law_depths_right ?cp_law_depths_right ?kp_law_depths_right ?alaw ?llaw ?claw ?klaw ?zall ?zany ?zbool ?zdict ?zint ?zisinstance ?zlen ?zlist ?zmax ?zmin ?zrange ?zrepr ?zsorted ?zstr ?zsuper ?ztuple ?zzip ?vCLETTERS ?vCSIGNS ?vCWORDS ?xCWORDS ?vCEDGES ?xCEDGES ?vCJOINTS ?xCJOINTS ?vCDEEPEST ?gARungsError ?gxBadName ?xlBadName ?saBadName ?gaBadName ?ggBadName ?ebBadName ?tyBadName ?kcBadName ?hdBadName ?icBadName ?inBadName ?tiBadName ?liBadName ?ciBadName ?ldBadName ?vfBadName ?hfBadName ?lcBadName ?suBadName ?veBadName ?mrBadName ?nnameBadName ?gxBadFormula ?xlBadFormula ?saBadFormula ?gaBadFormula ?ggBadFormula ?ebBadFormula ?tyBadFormula ?kcBadFormula ?hdBadFormula ?icBadFormula ?inBadFormula ?tiBadFormula ?liBadFormula ?ciBadFormula ?ldBadFormula ?vfBadFormula ?hfBadFormula ?lcBadFormula ?suBadFormula ?veBadFormula ?mrBadFormula ?gxTooMany ?xlTooMany ?saTooMany ?gaTooMany ?ggTooMany ?ebTooMany ?tyTooMany ?kcTooMany ?hdTooMany ?icTooMany ?inTooMany ?tiTooMany ?liTooMany ?ciTooMany ?ldTooMany ?vfTooMany ?hfTooMany ?lcTooMany ?suTooMany ?veTooMany ?mrTooMany ?nlimitTooMany ?eaRungsError ?iaRungsError ?yaRungsError ?saBadNameRungsError ?saBadFormulaRungsError ?saTooManyRungsError ?opq ?sBadNameBadName ?sBadNameBadFormula ?sBadNameTooMany ?sBadFormulaBadName ?sBadFormulaBadFormula ?sBadFormulaTooMany ?sTooManyBadName ?sTooManyBadFormula ?sTooManyTooMany ?top
    (case apis_whole => k_is)
    (case lpis_whole => k_is)
    (case cpis_whole => k_is)
    (case kpis_whole => k_is)
    (case apis_bit => k_is)
    (case lpis_bit => k_is)
    (case cpis_bit => k_is)
    (case kpis_bit => k_is)
    (case apcolumns_of => k_is)
    (case lpcolumns_of => k_is)
    (case cpcolumns_of => k_is)
    (case kpcolumns_of => k_is)
    (case apis_name => k_is)
    (case lpis_name => k_is)
    (case cpis_name => k_is)
    (case kpis_name => k_is)
    (case apis_formula => k_is)
    (case lpis_formula => k_is)
    (case dtpis_formula => k_is)
    (case cpis_formula => k_is)
    (case kpis_formula => k_is)
    (case ap_is_part => k_is)
    (case lp_is_part => k_is)
    (case cp_is_part => k_is)
    (case kp_is_part => k_is)
    (case apcheck_formula => k_is)
    (case lpcheck_formula => k_is)
    (case cpcheck_formula => k_is)
    (case kpcheck_formula => k_is)
    (case apleaves_of => k_is)
    (case lpleaves_of => k_is)
    (case cpleaves_of => k_is)
    (case kpleaves_of => k_is)
    (case aphas_edges => k_is)
    (case lphas_edges => k_is)
    (case cphas_edges => k_is)
    (case kphas_edges => k_is)
    (case apis_plain => k_is)
    (case lpis_plain => k_is)
    (case cpis_plain => k_is)
    (case kpis_plain => k_is)
    (case apcheck_plain => k_is)
    (case lpcheck_plain => k_is)
    (case cpcheck_plain => k_is)
    (case kpcheck_plain => k_is)
    (case aptold_names => k_is)
    (case lptold_names => k_is)
    (case cptold_names => k_is)
    (case kptold_names => k_is)
    (case apnames_of => k_is)
    (case lpnames_of => k_is)
    (case cpnames_of => k_is)
    (case kpnames_of => k_is)
    (case apworked => k_is)
    (case lpworked => k_is)
    (case cpworked => k_is)
    (case kpworked => k_is)
    (case apbit_of => k_is)
    (case lpbit_of => k_is)
    (case cpbit_of => k_is)
    (case kpbit_of => k_is)
    (case ap_turned => k_is)
    (case lp_turned => k_is)
    (case cp_turned => k_is)
    (case kp_turned => k_is)
    (case apturned => k_is)
    (case lpturned => k_is)
    (case cpturned => k_is)
    (case kpturned => k_is)
    (case ap_joined => k_is)
    (case lp_joined => k_is)
    (case cp_joined => k_is)
    (case kp_joined => k_is)
    (case apall_of => k_is)
    (case lpall_of => k_is)
    (case cpall_of => k_is)
    (case kpall_of => k_is)
    (case apany_of => k_is)
    (case lpany_of => k_is)
    (case cpany_of => k_is)
    (case kpany_of => k_is)
    (case ap_column => k_is)
    (case lp_column => k_is)
    (case cp_column => k_is)
    (case kp_column => k_is)
    (case aphangs_on => k_is)
    (case lphangs_on => k_is)
    (case cphangs_on => k_is)
    (case kphangs_on => k_is)
    (case ap_law_numbers => k_is)
    (case lp_law_numbers => k_is)
    (case cp_law_numbers => k_is)
    (case kp_law_numbers => k_is)
    (case ap_law_draw => k_is)
    (case lp_law_draw => k_is)
    (case cp_law_draw => k_is)
    (case kp_law_draw => k_is)
    (case ap_law_int => k_is)
    (case lp_law_int => k_is)
    (case cp_law_int => k_is)
    (case kp_law_int => k_is)
    (case ap_law_all_rows => k_is)
    (case lp_law_all_rows => k_is)
    (case cp_law_all_rows => k_is)
    (case kp_law_all_rows => k_is)
    (case ap_law_pool => k_is)
    (case lp_law_pool => k_is)
    (case cp_law_pool => k_is)
    (case kp_law_pool => k_is)
    (case ap_law_leaf => k_is)
    (case lp_law_leaf => k_is)
    (case cp_law_leaf => k_is)
    (case kp_law_leaf => k_is)
    (case ap_law_formula => k_is)
    (case lp_law_formula => k_is)
    (case cp_law_formula => k_is)
    (case kp_law_formula => k_is)
    (case ap_law_worth => k_is)
    (case lp_law_worth => k_is)
    (case cp_law_worth => k_is)
    (case kp_law_worth => k_is)
    (case ap_law_turned => k_is)
    (case lp_law_turned => k_is)
    (case cp_law_turned => k_is)
    (case kp_law_turned => k_is)
    (case ap_law_names => k_is)
    (case lp_law_names => k_is)
    (case cp_law_names => k_is)
    (case kp_law_names => k_is)
    (case ap_law_deep => k_is)
    (case lp_law_deep => k_is)
    (case cp_law_deep => k_is)
    (case kp_law_deep => k_is)
    (case ap_law_word => k_is)
    (case lp_law_word => k_is)
    (case cp_law_word => k_is)
    (case kp_law_word => k_is)
    (case ap_law_bits_right => k_is)
    (case lp_law_bits_right => k_is)
    (case cp_law_bits_right => k_is)
    (case kp_law_bits_right => k_is)
    (case ap_law_lacking_right => k_is)
    (case lp_law_lacking_right => k_is)
    (case cp_law_lacking_right => k_is)
    (case kp_law_lacking_right => k_is)
    (case ap_law_joint_right => k_is)
    (case lp_law_joint_right => k_is)
    (case cp_law_joint_right => k_is)
    (case kp_law_joint_right => k_is)
    (case ap_law_refused_right => k_is)
    (case lp_law_refused_right => k_is)
    (case cp_law_refused_right => k_is)
    (case kp_law_refused_right => k_is)
    (case ap_law_closed_right => k_is)
    (case lp_law_closed_right => k_is)
    (case cp_law_closed_right => k_is)
    (case kp_law_closed_right => k_is)
    (case ap_law_depths_right => k_is)
    (case lp_law_depths_right => k_is)
    (case cp_law_depths_right => k_is)
    (case kp_law_depths_right => k_is)
    (case alaw => k_is)
    (case llaw => k_is)
    (case claw => k_is)
    (case klaw => k_is)
    (case zall => k_is)
    (case zany => k_is)
    (case zbool => k_is)
    (case zdict => k_is)
    (case zint => k_is)
    (case zisinstance => k_is)
    (case zlen => k_is)
    (case zlist => k_is)
    (case zmax => k_is)
    (case zmin => k_is)
    (case zrange => k_is)
    (case zrepr => k_is)
    (case zsorted => k_is)
    (case zstr => k_is)
    (case zsuper => k_is)
    (case ztuple => k_is)
    (case zzip => k_is)
    (case vCLETTERS => k_is)
    (case vCSIGNS => k_is)
    (case vCWORDS => k_is)
    (case xCWORDS => k_is)
    (case vCEDGES => k_is)
    (case xCEDGES => k_is)
    (case vCJOINTS => k_is)
    (case xCJOINTS => k_is)
    (case vCDEEPEST => k_is)
    (case gARungsError => k_is)
    (case gxBadName => k_is)
    (case xlBadName => k_is)
    (case saBadName => k_is)
    (case gaBadName => k_is)
    (case ggBadName => k_is)
    (case ebBadName => k_is)
    (case tyBadName => k_is)
    (case kcBadName => k_is)
    (case hdBadName => k_is)
    (case icBadName => k_is)
    (case inBadName => k_is)
    (case tiBadName => k_is)
    (case liBadName => k_is)
    (case ciBadName => k_is)
    (case ldBadName => k_is)
    (case vfBadName => first | rfl | k_is)
    (case hfBadName => first | rfl | decide | k_is)
    (case lcBadName => k_is)
    (case suBadName => first | rfl | decide +kernel)
    (case veBadName => k_is)
    (case mrBadName => k_is)
    (case nnameBadName => k_is)
    (case gxBadFormula => k_is)
    (case xlBadFormula => k_is)
    (case saBadFormula => k_is)
    (case gaBadFormula => k_is)
    (case ggBadFormula => k_is)
    (case ebBadFormula => k_is)
    (case tyBadFormula => k_is)
    (case kcBadFormula => k_is)
    (case hdBadFormula => k_is)
    (case icBadFormula => k_is)
    (case inBadFormula => k_is)
    (case tiBadFormula => k_is)
    (case liBadFormula => k_is)
    (case ciBadFormula => k_is)
    (case ldBadFormula => k_is)
    (case vfBadFormula => first | rfl | k_is)
    (case hfBadFormula => first | rfl | decide | k_is)
    (case lcBadFormula => k_is)
    (case suBadFormula => first | rfl | decide +kernel)
    (case veBadFormula => k_is)
    (case mrBadFormula => k_is)
    (case gxTooMany => k_is)
    (case xlTooMany => k_is)
    (case saTooMany => k_is)
    (case gaTooMany => k_is)
    (case ggTooMany => k_is)
    (case ebTooMany => k_is)
    (case tyTooMany => k_is)
    (case kcTooMany => k_is)
    (case hdTooMany => k_is)
    (case icTooMany => k_is)
    (case inTooMany => k_is)
    (case tiTooMany => k_is)
    (case liTooMany => k_is)
    (case ciTooMany => k_is)
    (case ldTooMany => k_is)
    (case vfTooMany => first | rfl | k_is)
    (case hfTooMany => first | rfl | decide | k_is)
    (case lcTooMany => k_is)
    (case suTooMany => first | rfl | decide +kernel)
    (case veTooMany => k_is)
    (case mrTooMany => k_is)
    (case nlimitTooMany => k_is)
    (case eaRungsError => k_is)
    (case iaRungsError => k_is)
    (case yaRungsError => k_is)
    (case saBadNameRungsError => k_is)
    (case saBadFormulaRungsError => k_is)
    (case saTooManyRungsError => k_is)
    (case opq => k_is)
    (case sBadNameBadName => k_is)
    (case sBadNameBadFormula => k_is)
    (case sBadNameTooMany => k_is)
    (case sBadFormulaBadName => k_is)
    (case sBadFormulaBadFormula => k_is)
    (case sBadFormulaTooMany => k_is)
    (case sTooManyBadName => k_is)
    (case sTooManyBadFormula => k_is)
    (case sTooManyTooMany => k_is)
    (case top => first | rfl | decide)

