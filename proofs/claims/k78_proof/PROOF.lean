import PyProof.Rows.All
import Wide.All
import OpenK.AllK
import Wide.FinOn
import KE.KExcSuper
import HandS.Base
import HandS.Call
import HandS.List
import HandS.Ends
import HandS.Exc
import HandS.ExcOwn
import HandS.ExcInit
import HandS.Words
import HandS.Nested
import HandS.TryMany
import KE.GoesMore
import KE.GoesEnum
import HandS.Iter
import HandS.Sort
import HandS.SortInts
import HandS.TupMul
import HandS.TupAny
import PyProof.ListMulRoad
import HandS.CallSlots
import HandS.ForMost
import HandS.ForExc
import HandS.IsInst
import HandS.Conv
import HandS.Zip
import HandS.DictComp
import HandS.SortRule
import HandS.ExcField
import HandS.FStr
import HandS.Deep
import HandS.TupLe
import HandS.TryOnly
import HandS.Gcd
import PySem.Challenge.RW_guardrungs_k78_load_and_dividing_periods
set_option Elab.async false
set_option linter.all false
set_option maxRecDepth 100000
set_option maxHeartbeats 4000000
namespace GX
open PySem PySem.Spec PyProof.Rows L2 NdefX
/-- what the written part says of an own exception class whose __init__ goes over super -/
structure Sup (P : Program) (K : PySem.W.Frag) (mg : Str → Option Value) (C fI : Addr) (qual : Str) (st : Stmt) (fd : FuncData) : Prop where
  O : OexC K C
  iC : PySem.W.findIn K (.ref C) "__init__" = some (some (.ref fI))
  tI : PySem.W.typeIn K (.ref fI) = some (.type "function")
  ex : ∃ (oc : Value) (od : Option Addr) (kV doc pm ct : Value) (an : Option Addr) (osl : Array (Option Value)) (cc cda : Addr) (ccl cl : Value) (cdd cld : Option Addr) (vs : Array Value) (ccs csl : Array (Option Value)) (file : Str) (tf : Tok),
    fd = PySem.W.fnX "__init__" qual (defArgs st) (defBody st) (defScope st) [("__class__", cc)] .none kV doc pm an (.ref cda) ct ∧
    K.lookup fI = some ⟨oc, od, .func fd, osl⟩ ∧ PySem.W.codeIn K (.ref cda) qual = true ∧ K.lookup cda = some ⟨ccl, cdd, .fields vs, ccs⟩ ∧ vs[2]? = some (.str file tf) ∧ ((P.main.file : Str) == file) = true ∧
    K.lookup cc = some ⟨cl, cld, .cell (some (.ref C)), csl⟩
  sup : PySem.W.ks_superIn K C C "__init__" = some (some (.builtin "ValueError.__init__"))
  opq : PySem.W.nsIn K cStatics "thirdparty.any" = some none
  sVE : PySem.W.subIn K (.ref C) (.type "ValueError") = some true
  mro : PySem.W.mroIn K C (.ref C) = some true
  sG : mg "super" = none
  top : (P.main.scope.names.lookup ("super" : Str)).isSome = false
section
variable {X : Cx} {pins : List (Addr × Obj)} {σ : L2.St} {H : Hp} {s : Shared} {C a u : Addr}
/-- the built-in __init__ bound to the exception, called -/
theorem sup_call {A : Around} {E : Value → Shared → Prop} {us : List Value} {Q : Value → Shared → Prop} (T : OexC X.K C) (I : Inv X pins σ H s) (e : H a = some (exo a C none))
    (hu : s.heap.get? u = some (PySem.W.kxs_mw "ValueError.__init__" a)) (hl : us.length ≤ sizeLine) (h : ∀ s', Inv X pins σ H s' → Q .none s') : wpAny (model X.prog X.w) A (call (.ref u) us) Q E s := by
  obtain ⟨nm, q, N, bs, bm, sn, sub, ab, col, dd, k0, k1, k2, k3, k5, hC, hbm⟩ := T.cls
  have hC' := I.kIn _ _ hC
  obtain ⟨t1, ho⟩ := exo_at I.hok e
  obtain ⟨hp, g, d, t, os⟩ := s
  refine wpAny_call (codeAny_of_tree ?_)
  show wpAny _ A.in1 (callAny (.ref u) ⟨us, []⟩) _ _ _
  simp only [callAny]
  refine wpAny_bind (wpAny_load hu ?_)
  simp only [PySem.W.kxs_mw, show (Value.type "method-wrapper" == Value.type "method" || Value.type "method-wrapper" == Value.type "builtin_function_or_method" || Value.type "method-wrapper" == Value.type "method-wrapper") = true by decide, if_true]
  refine PySem.W.KFB.if_so (by decide) ?_
  refine wpAny_bind (PySem.W.check_bound_init F.excBase_ValueError.toExcCallFacts hC' ho rfl ?_)
  refine wpAny_bind (wpAny_pure (wpAny_pure ?_))
  refine ⟨plainId_quiet F.excBase_ValueError.init.plain _, codeAny_builtin F.excBase_ValueError.initEntry ?_⟩
  refine PySem.W.exc_init_tree (cls := .ref C) (t0 := t1) (dv := none) (c2 := .none) (c3 := .none) (b4 := .bool false) ho hl fun h' k hx _ => ?_
  have J := I.write (t' := t) (x := a) (e := a) (o := exo a C none) (by rw [e]; exact True.intro) (.inl rfl) k ⟨_, hx⟩ (exo_ok hx)
  have eu : upd H a (exo a C none) = H := by
    funext b
    by_cases hb : b = a
    · rw [hb, upd_same, e]
    · rw [upd_ne hb]
  rw [eu] at J
  exact h _ J
/-- super().__init__(e, ..) as a statement of an exception's own __init__ -/
theorem sup_stmt {body : List Stmt} {e : Expr} {es : List Expr} {ta : TA} {p0 p1 p2 p3 p4 : Pos} {pl : Sem Bool} {nx : Hp → Prop} {fI cda cc : Addr} {fd : FuncData} {ar : Arg} {oc ccl cl : Value} {od cdd cld : Option Addr} {osl ccs csl : Array (Option Value)} {vs : Array Value} {file : Str} {tf : Tok}
    (O : OexC X.K C) (hfu : X.env.func = some fI) (lkf : X.K.lookup fI = some ⟨oc, od, .func fd, osl⟩) (hp : (fd.params.posonlyargs ++ fd.params.args).head? = some ar) (hco : X.env.code = .ref cda) (lkc : X.K.lookup cda = some ⟨ccl, cdd, .fields vs, ccs⟩)
    (hvs : vs[2]? = some (.str file tf)) (hfile : ((X.prog.main.file : Str) == file) = true) (hcel : X.env.cells.lookup ("__class__" : Str) = some cc) (lkcc : X.K.lookup cc = some ⟨cl, cld, .cell (some (.ref C)), csl⟩)
    (hks : X.env.kindOf "super" = some .globalImplicit) (hkc : X.env.kindOf "__class__" = some .free) (hk0 : X.env.kindOf ar.arg = some .local) (hN0 : X.N[0]? = some ar.arg)
    (sup : PySem.W.ks_superIn X.K C C "__init__" = some (some (.builtin "ValueError.__init__"))) (opq : PySem.W.nsIn X.K cStatics "thirdparty.any" = some none) (sVE : PySem.W.subIn X.K (.ref C) (.type "ValueError") = some true)
    (mro : PySem.W.mroIn X.K C (.ref C) = some true) (sG : X.mg "super" = none) (top : (X.prog.main.scope.names.lookup ("super" : Str)).isSome = false)
    (hpa : PA X (e :: es) ta) (I : Inv X pins σ H s) (hs0 : σ[0]? = some (some (.ref a))) (ea : H a = some (exo a C none)) (h : ta σ H fun vs H1 => H1 a = some (exo a C none) ∧ vs.length ≤ 1000 ∧ nx H1)
    (hi : interactive X.env = false) (hsw : swapsWith (.Call (.Attribute (.Call (.Name "super" p0) [] [] p1) "__init__" p2) (e :: es) [] p3) none p4.line X.env = pure false)
    (heq : eval (.Call (.Attribute (.Call (.Name "super" p0) [] [] p1) "__init__" p2) (e :: es) [] p3) X.env = (do
      let ov ← attributeBase (.Call (.Name "super" p0) [] [] p1) "__init__" X.env (eval (.Call (.Name "super" p0) [] [] p1) X.env)
      standAt p2.atName
      let (f, first) ← holding [ov] (getMethod ov "__init__" pl)
      callWith p3 f first (backTo p3 (starEach (e :: es) X.env)) []))
    (he : starEach (e :: es) X.env = (false, eval e X.env) :: starEach es X.env) (hpl : (backTo p3 (starEach es X.env)).any (·.1) = false) :
    _root_.PySem.wpAt (model X.prog X.w) X.A (.func body X.env) (exec (.Expr (.Call (.Attribute (.Call (.Name "super" p0) [] [] p1) "__init__" p2) (e :: es) [] p3) p4) X.env) (fun f s' => f = .next ∧ ∃ H1, Inv X pins σ H1 s' ∧ nx H1) X.xe s := by
  refine ks_wpAt_Expr_any ?_ hi hsw
  refine ks_wpAt_MethodCall ?_ heq
  obtain ⟨nm, q, N, bs, bm, sn, sub, ab, col, dd, k0, k1, k2, k3, k5, hC, hbm⟩ := O.cls
  have hC' := I.kIn _ _ hC
  obtain ⟨cd, hcd⟩ : ∃ cd, PySem.W.clsIn X.K C = some cd := by
    unfold PySem.W.ks_superIn at sup
    cases hc : PySem.W.clsIn X.K C with
    | none => rw [hc] at sup; cases sup
    | some cd => exact ⟨cd, rfl⟩
  have hsup : PySem.W.alongIn X.K "__init__" ((cd.mro.dropWhile (· != .ref C)).drop 1) = some (some (.builtin "ValueError.__init__")) := by
    unfold PySem.W.ks_superIn at sup
    rw [hcd] at sup
    exact sup
  obtain ⟨t1, hoe⟩ := exo_at I.hok ea
  have hnc : ∀ c, (({ cls := .ref C, dict := none, data := .fields #[.ref t1, .none, .none, .none, .bool false, .none] } : Obj)).data ≠ .cls c := fun c z => by cases z
  refine ks_wpAt_super_base hks hkc rfl hfu (I.kIn _ _ lkf) rfl hp hco (I.kIn _ _ lkc) rfl hvs hfile top ?_
  obtain ⟨mb, hb1, hb2⟩ := I.mod.blt
  refine PySem.W.ks_loadName_global I.ok.kind hks (Calls.loadGlobal_builtin (by rw [I.ok.glob]; exact I.mod.glob.keeps I.bk) sG (by rw [I.ok.blt]; exact hb1.keeps I.bk) ((hb2 "super" (by decide)).trans (by decide +kernel)) ⟨rfl, ?_⟩)
  refine wpAny_loadName_free I.ok.kind hkc hcel ⟨_, I.kIn _ _ lkcc, rfl⟩ ?_
  obtain ⟨m, hn, hlk⟩ := id I.loc
  obtain ⟨u0, r0, l0⟩ := hlk 0 ar.arg (.ref a) hN0 hs0 (.inl hk0)
  obtain rfl : u0 = Value.ref a := r0
  have hma : m ar.arg = some (.ref a) := by
    rcases l0 with ⟨_, z⟩ | ⟨z | z, _⟩
    · exact z
    · rw [hk0] at z; cases z
    · rw [hk0] at z; cases z
  refine wpAny_loadName_local I.ok.kind hk0 hn hma ?_
  refine ks_wpAny_isType_cls hC' rfl ⟨rfl, ?_⟩
  obtain ⟨hh, g, d, t, os⟩ := s
  refine ks_wpAny_call_super hC' rfl hoe rfl hnc (PySem.W.looks_mroIn I.kIn mro) (fun h1 e1 kp1 => ?_)
  have I1 : Inv X pins σ H ⟨h1, g, d, t, os⟩ := I.kept (t' := t) kp1
  have hoe1 := kp1 _ _ hoe
  have ne : a ≠ C := fun z => by
    rw [z] at hoe
    have hoe := hoe.symm.trans hC'
    cases hoe
  have hI : PySem.W.Looks (model X.prog X.w) h1 (isInstance (.ref a) (.type "ValueError")) true :=
    (show PySem.W.InstAt h1 a ({ cls := .ref C, dict := none, data := .fields #[.ref t1, .none, .none, .none, .bool false, .none] } : Obj) C none from ⟨hoe1, rfl, rfl, trivial⟩).type.andThen (PySem.W.looks_subIn I1.kIn sVE)
  refine PySem.W.kxs_getMethod PySem.W.kxs_ValueError e1 (PySem.W.looks_opaque I1.kIn opq) (l₀ := cd.mro) (fun A Q E s k q => wpAny_bind ((PySem.W.looks_clsIn I1.kIn hcd) A _ E s k (wpAny_pure q))) rfl I1.kIn hsup hI ne rfl ?_
  have kp2 : ∀ b o, h1.get? b = some o → (h1.push (PySem.W.kxs_mw "ValueError.__init__" a)).get? b = some o := fun b o z => Heap.get?_push_of_some _ z
  have hu2 : (h1.push (PySem.W.kxs_mw "ValueError.__init__" a)).get? h1.objs.size = some (PySem.W.kxs_mw "ValueError.__init__" a) := Heap.get?_push_at rfl rfl
  have I2 : Inv X pins σ H ⟨h1.push (PySem.W.kxs_mw "ValueError.__init__" a), g, d, t + 1, os⟩ := I1.kept (t' := t + 1) kp2
  have nH : H h1.objs.size = none := I1.hok.fresh (Nat.le_refl _)
  have I3 : Inv X ((h1.objs.size, PySem.W.kxs_mw "ValueError.__init__" a) :: pins) σ H ⟨h1.push (PySem.W.kxs_mw "ValueError.__init__" a), g, d, t + 1, os⟩ := I2.pins_of fun p hp => by
    rcases List.mem_cons.mp hp with rfl | hp
    · exact ⟨hu2, nH, Nat.ne_of_gt I1.lt, I1.nofs (Nat.le_refl _), fun v z => by cases z⟩
    · exact I2.pin p (List.mem_append_right _ hp)
  show wpAny _ _ (callWith p3 (.ref h1.objs.size) [] (backTo p3 (starEach (e :: es) X.env)) []) _ _ _
  rw [he]
  refine PySem.W.kxs_callWith (i := "ValueError.__init__") (x := a) (by show (false || (backTo p3 (starEach es X.env)).any (·.1)) = false; rw [hpl]; rfl) ?_
  refine Calls.evalArgs_plain ?_
  show wpAny _ _ (spliced (backTo p3 ((false, eval e X.env) :: starEach es X.env))) _ _ _
  rw [← he]
  refine thn (hpa.run p3 _ _ σ H _ I3 h) fun us s4 ⟨vs4, H4, I4, r4, e4, l4, q4⟩ => ?_
  have hu4 := (I4.pin _ (List.mem_append_right _ List.mem_cons_self)).1
  have I5 : Inv X pins σ H4 s4 := I4.pins_of fun p hp => I4.pin p (List.mem_append_right _ (List.mem_cons_of_mem _ hp))
  refine ⟨hu4, ?_⟩
  refine sup_call O I5 e4 hu4 ?_ fun s5 J => ⟨rfl, H4, J, q4⟩
  show us.length ≤ sizeLine
  rw [← Paired.length r4, sizeLine_eq]
  omega
end
/-- an exception's own __init__ by its body -/
theorem fn_ofI {CX : CXT} {P : Program} {w : World} {K : PySem.W.Frag} {mg : Str → Option Value} {base : Heap} {k : Nat} {C fI : Addr} {qual : Str} {st : Stmt} {fd : FuncData} {N ps : List Str} {ar : Arg} {sp : Sp} {ex : Expr} {es : List Expr} {rest : List Stmt} {p0 p1 p2 p3 p4 : Pos}
    (T : Sup P K mg C fI qual st fd) (S : NScope N ps ["__class__"] (defScope st)) (har : ((defArgs st).posonlyargs ++ (defArgs st).args).head? = some ar) (hps : ps[0]? = some ar.arg) (hsu : (defScope st).names.lookup ("super" : Str) = some .globalImplicit)
    (len : ∀ vs H Q E, sp vs H Q E → vs.length = ps.length)
    (hst : defBody st = .Expr (.Call (.Attribute (.Call (.Name "super" p0) [] [] p1) "__init__" p2) (ex :: es) [] p3) p4 :: rest)
    (hside : ∀ (cc cda L : Addr), interactive (envF ⟨"__init__", qual, defArgs st, defBody st, defScope st, [("__class__", cc)], cda⟩ fI L) = false ∧
      swapsWith (.Call (.Attribute (.Call (.Name "super" p0) [] [] p1) "__init__" p2) (ex :: es) [] p3) none p4.line (envF ⟨"__init__", qual, defArgs st, defBody st, defScope st, [("__class__", cc)], cda⟩ fI L) = pure false ∧
      (∃ pl : Sem Bool, eval (.Call (.Attribute (.Call (.Name "super" p0) [] [] p1) "__init__" p2) (ex :: es) [] p3) (envF ⟨"__init__", qual, defArgs st, defBody st, defScope st, [("__class__", cc)], cda⟩ fI L) = (do
        let ov ← attributeBase (.Call (.Name "super" p0) [] [] p1) "__init__" (envF ⟨"__init__", qual, defArgs st, defBody st, defScope st, [("__class__", cc)], cda⟩ fI L) (eval (.Call (.Name "super" p0) [] [] p1) (envF ⟨"__init__", qual, defArgs st, defBody st, defScope st, [("__class__", cc)], cda⟩ fI L))
        standAt p2.atName
        let (f, first) ← holding [ov] (getMethod ov "__init__" pl)
        callWith p3 f first (backTo p3 (starEach (ex :: es) (envF ⟨"__init__", qual, defArgs st, defBody st, defScope st, [("__class__", cc)], cda⟩ fI L))) [])) ∧
      starEach (ex :: es) (envF ⟨"__init__", qual, defArgs st, defBody st, defScope st, [("__class__", cc)], cda⟩ fI L) = (false, eval ex (envF ⟨"__init__", qual, defArgs st, defBody st, defScope st, [("__class__", cc)], cda⟩ fI L)) :: starEach es (envF ⟨"__init__", qual, defArgs st, defBody st, defScope st, [("__class__", cc)], cda⟩ fI L) ∧
      (backTo p3 (starEach es (envF ⟨"__init__", qual, defArgs st, defBody st, defScope st, [("__class__", cc)], cda⟩ fI L))).any (·.1) = false)
    (hbody : ∀ (cc cda : Addr) (A : Around) (outer : List Env) (s : Shared) (H : Hp) (vs : List V) (Q : VK) (E : XK), Room k (A.deeper (envF ⟨"__init__", qual, defArgs st, defBody st, defScope st, [("__class__", cc)], cda⟩ fI s.heap.objs.size)) → sp vs H Q E →
      ∃ (a : Addr) (vs' : List V) (ta : TA) (t : TS), vs = .ref a :: vs' ∧ H a = some (exo a C none) ∧ PA (ncx CX P w K mg base N ⟨"__init__", qual, defArgs st, defBody st, defScope st, [("__class__", cc)], cda⟩ fI A outer s H E) (ex :: es) ta ∧
        PSs (ncx CX P w K mg base N ⟨"__init__", qual, defArgs st, defBody st, defScope st, [("__class__", cc)], cda⟩ fI A outer s H E) rest t ∧
        ta (startF N vs [none]) H fun us H1 => H1 a = some (exo a C none) ∧ us.length ≤ 1000 ∧ t { nx := fun _ H' => Q .non H', rt := Q } (startF N vs [none]) H1) :
    FnOk P w K mg base CX (k + 1) fI fd ps sp := by
  obtain ⟨oc, od, kV, doc, pm, ct, an, osl, cc, cda, ccl, cl, cdd, cld, vs2, ccs, csl, file, tf, efd, lkf, hcd, lkc, hvs, hfile, lkcc⟩ := T.ex
  subst efd
  refine ⟨len, fun A outer s H args us vs Q E hr e0 hb r hsp => ?_⟩
  have hl := len _ _ _ _ hsp
  have KX : K.In s.heap := e0.mod.kin.keeps fun b o e => (e0.bs b o e).1
  have lim : s.heap.NoLimit := e0.mod.nolimit.keeps fun b o e => (e0.bs b o e).1
  have hloc : ∀ y ∈ ps.zip us, (defScope st).names.lookup y.1 = some .local := fun ⟨n, _⟩ hy => S.par n (List.of_mem_zip hy).1
  obtain ⟨h1, h2, ⟨pl, h3⟩, h4, h5⟩ := hside cc cda s.heap.objs.size
  refine ks_codeAny_call_defAt (fd := PySem.W.fnX "__init__" qual (defArgs st) (defBody st) (defScope st) [("__class__", cc)] .none kV doc pm an (.ref cda) ct) (body := defBody st) (binds := ps.zip us) hr.depth (KX _ _ lkf) rfl lim (PySem.W.codeRec_of KX hcd) rfl hb S.nocell hloc (fun h₁ hns kp => ?_) S.co S.gen S.kind
  have C0 : CellsAt [(("__class__" : Str), cc)] ["__class__"] [none] s.heap H := by
    have bc := e0.mod.kin _ _ lkcc
    have hc := e0.bs _ _ bc
    have look1 : ∀ {y : Str} {c : Addr}, List.lookup y [(("__class__" : Str), cc)] = some c → y = "__class__" ∧ c = cc := fun {y c} z => by
      by_cases hy : y = ("__class__" : Str)
      · subst hy
        simp [List.lookup] at z
        exact ⟨rfl, z.symm⟩
      · have e : (y == ("__class__" : Str)) = false := by simpa using hy
        simp [List.lookup, e] at z
    refine ⟨rfl, fun y c z => ?_, fun x y c z1 z2 => (look1 z1).1.trans (look1 z2).1.symm, fun i y z => ?_⟩
    · obtain ⟨_, rfl⟩ := look1 z
      exact ⟨hc.2, _, _, hc.1, rfl⟩
    · cases i with
      | zero =>
        have e : ("__class__" : Str) = y := by simpa using z
        subst e
        exact ⟨cc, by simp [List.lookup], fun v q => by simp at q⟩
      | succ i => simp at z
  have I : Inv (ncx CX P w K mg base N ⟨"__init__", qual, defArgs st, defBody st, defScope st, [("__class__", cc)], cda⟩ fI A outer s H E) [] (startF N vs [none]) H { s with heap := h₁, toks := s.toks + (ps.zip us).length } := inv_startN S hr.hd e0 hl r C0 hns kp
  obtain ⟨a, vs', ta, t, evs, ea, hpa, hrest, hq⟩ := hbody cc cda A outer s H vs Q E (hr.deeper _) hsp
  have hN0 : N[0]? = some ar.arg := by
    have hpre := S.pre
    have q : (ps ++ [("__class__" : Str)])[0]? = some ar.arg := by
      rw [List.getElem?_append_left (by
        cases ps with
        | nil => simp at hps
        | cons _ _ => simp)]
      exact hps
    rw [← hpre, List.getElem?_take_of_lt (by simp)] at q
    exact q
  have hs0 : (startF N vs [none])[0]? = some (some (.ref a)) := by
    rw [evs]
    rfl
  have hloc0 : (defScope st).names.lookup ar.arg = some .local := S.par _ (List.mem_of_getElem? hps)
  have fin : ∀ {σ' : L2.St} {H' : Hp} {v : V} {u : Value} {s' : Shared}, Inv (ncx CX P w K mg base N ⟨"__init__", qual, defArgs st, defBody st, defScope st, [("__class__", cc)], cda⟩ fI A outer s H E) [] σ' H' s' → L2.RelV v u → Q v H' → CE outer P w H s Q u s' :=
    fun {σ' H' v u s'} J rv q => ⟨v, H', J.os, J.bare, J.base, J.hok, rv, q⟩
  have sup := sup_stmt (X := ncx CX P w K mg base N ⟨"__init__", qual, defArgs st, defBody st, defScope st, [("__class__", cc)], cda⟩ fI A outer s H E) (body := defBody st) (p0 := p0) (p1 := p1) (p2 := p2) (p3 := p3) (p4 := p4) (pl := pl) (e := ex) (es := es) (C := C) (a := a)
    (nx := fun H1 => t { nx := fun _ H' => Q .non H', rt := Q } (startF N vs [none]) H1) (fI := fI) (cda := cda) (cc := cc) (ar := ar) (vs := vs2) (file := file) (tf := tf)
    T.O rfl lkf har rfl lkc hvs hfile (by rfl) lkcc hsu (S.frk _ List.mem_cons_self) hloc0 hN0 T.sup T.opq T.sVE T.mro T.sG T.top hpa I hs0 ea hq h1 h2 h3 h4 h5
  show _root_.PySem.wpAt (model P w) (A.deeper (envF ⟨"__init__", qual, defArgs st, defBody st, defScope st, [("__class__", cc)], cda⟩ fI s.heap.objs.size)) (.func (defBody st) (envF ⟨"__init__", qual, defArgs st, defBody st, defScope st, [("__class__", cc)], cda⟩ fI s.heap.objs.size))
    (execs (defBody st) (envF ⟨"__init__", qual, defArgs st, defBody st, defScope st, [("__class__", cc)], cda⟩ fI s.heap.objs.size)) _ _ _
  have sp2 : ∀ (stmts : List Stmt), stmts = .Expr (.Call (.Attribute (.Call (.Name "super" p0) [] [] p1) "__init__" p2) (ex :: es) [] p3) p4 :: rest →
      _root_.PySem.wpAt (model P w) (A.deeper (envF ⟨"__init__", qual, defArgs st, defBody st, defScope st, [("__class__", cc)], cda⟩ fI s.heap.objs.size)) (.func (defBody st) (envF ⟨"__init__", qual, defArgs st, defBody st, defScope st, [("__class__", cc)], cda⟩ fI s.heap.objs.size))
        (execs stmts (envF ⟨"__init__", qual, defArgs st, defBody st, defScope st, [("__class__", cc)], cda⟩ fI s.heap.objs.size)) (fun f s' => CR CX outer P w H s Q E (.ok (.ret (match f with | .ret v => v | _ => .none))) s')
        (ncx CX P w K mg base N ⟨"__init__", qual, defArgs st, defBody st, defScope st, [("__class__", cc)], cda⟩ fI A outer s H E).xe { s with heap := h₁, toks := s.toks + (ps.zip us).length } := fun stmts es' => by
    subst es'
    refine ks_wpAt_execs_cons (ks_wpAt_mono sup (fun f s' ⟨ef, H1, J, q⟩ => ?_) fun _ _ z => z)
    subst ef
    refine PySem.wpAt_of_wpAny (wpAny_mono (hrest.run [] s' _ H1 _ J q) (fun fl s2 hs => ?_) fun e s' hs => hs)
    cases fl with
    | ret u =>
      obtain ⟨v, σ', H', J, rv, q⟩ := hs
      exact fin J rv q
    | next =>
      obtain ⟨σ', H', J, q⟩ := hs
      exact fin (v := V.non) (u := Value.none) J rfl q
    | brk =>
      obtain ⟨_, _, _, q⟩ := hs
      exact False.elim q
    | cont =>
      obtain ⟨_, _, _, q⟩ := hs
      exact False.elim q
  exact sp2 (defBody st) hst
end GX

set_option Elab.async false
set_option linter.all false
set_option maxRecDepth 100000
set_option maxHeartbeats 4000000
namespace GX
open PySem PySem.Spec PyProof.Rows L2
/-- behind a suite whose name goes -/
def endsA (D : Ends) (i : Nat) : Ends := { nx := fun σ' H' => D.nx (σ'.set i none) H', rt := D.rt, bk := fun σ' H' => D.bk (σ'.set i none) H', ct := fun σ' H' => D.ct (σ'.set i none) H' }
/-- what the clauses, named ones too, wish of an exception of the body, one after the other -/
def wManyA (K : PySem.W.Frag) (Wout : WX) (D : Ends) : List (Value × Option Nat × (Addr → Value → Option Addr → TS)) → WX
  | [] => Wout
  | (c, .none, ts) :: r => fun cls d σ H => ∃ b, PySem.W.exmOne K cls c = some b ∧ (b = true → ∀ a, H a = none → ts a cls d D σ H) ∧ (b = false → wManyA K Wout D r cls d σ H)
  | (c, .some i, ts) :: r => fun cls d σ H => ∃ b, PySem.W.exmOne K cls c = some b ∧ (b = true → ∀ a, H a = none → ts a cls d (endsA D i) (σ.set i (some (.ref a))) H) ∧ (b = false → wManyA K Wout D r cls d σ H)
inductive HdsA (X : Cx) : List ExceptHandler → List (Value × Option Nat × (Addr → Value → Option Addr → TS)) → Prop
  | nil : HdsA X [] []
  | plain {x : Str} {c : Value} {ts : Addr → Value → Option Addr → TS} {b₀ : Stmt} {suite : List Stmt} {np pos' : Pos} {hds : List ExceptHandler} {l : List (Value × Option Nat × (Addr → Value → Option Addr → TS))} (hc : Names X x c)
      (hsu : ∀ (a : Addr) (oe : Obj) (cls : Value) (d : Option Addr) (pn : List (Addr × Obj)), Zc cls d oe → (∃ vs, oe.data = .fields vs) → PSs (X.suite a ((a, oe) :: pn)) (b₀ :: suite) (ts a cls d)) (r : HdsA X hds l) :
      HdsA X (.ExceptHandler (some (.Name x np)) none (b₀ :: suite) pos' :: hds) ((c, .none, ts) :: l)
  | named {x n : Str} {i : Nat} {c : Value} {ts : Addr → Value → Option Addr → TS} {b₀ : Stmt} {suite : List Stmt} {np pos' : Pos} {hds : List ExceptHandler} {l : List (Value × Option Nat × (Addr → Value → Option Addr → TS))} (hc : Names X x c)
      (hi : X.N[i]? = some n) (hln : X.env.kindOf n = some .local)
      (hsu : ∀ (a : Addr) (oe : Obj) (cls : Value) (d : Option Addr) (pn : List (Addr × Obj)), Zc cls d oe → (∃ vs, oe.data = .fields vs) → PSs (X.suite a ((a, oe) :: pn)) (b₀ :: suite) (ts a cls d)) (r : HdsA X hds l) :
      HdsA X (.ExceptHandler (some (.Name x np)) (some n) (b₀ :: suite) pos' :: hds) ((c, .some i, ts) :: l)
section
variable {X : Cx} {body : List Stmt} {h₀ : ExceptHandler} {hds : List ExceptHandler} {l : List (Value × Option Nat × (Addr → Value → Option Addr → TS))} {pos : Pos} {tb : WX → TS} {Wout : WX}
theorem ps_try_manyA (hs : X.stack = X.env :: X.outer) (hf : X.env.frame = some X.env.locals) (hN : X.N.Nodup) (tk : Takes X Wout)
    (hb : ∀ (W : WX) (pn : List (Addr × Obj)) (xe : Value → Shared → Prop), Takes (X.tr pn xe) W → PassesOwn (model X.prog X.w) X.A X.env xe → PSs (X.tr pn xe) body (tb W))
    (hh : HdsA X (h₀ :: hds) l) : PS X (.Try body (h₀ :: hds) [] [] pos) (fun D σ H => tb (wManyA X.K Wout D l) D σ H) := by
  refine ⟨fun pins s σ H D I h => ?_⟩
  have ok := I.ok
  have hfr : X.A.frames = some (X.env :: X.outer) := by rw [ok.frames, hs]
  refine wpAny_Try_except ?_
  refine wpAny_mono ((hb (wManyA X.K Wout D l) (X.pn ++ pins) (fun e s₁ => wpAny (model X.prog X.w) X.A (noteFrame e X.env) (fun _ s₂ => wpAny (model X.prog X.w) X.A (setFlight e none) (fun _ s₃ =>
    wpAny (model X.prog X.w) X.A (handleBy e X.env (h₀ :: hds)) (SP X pins D) X.xe s₃) X.xe s₂) X.xe s₁) (fun u s' xx => ?_) PassesOwn.looking).run [] s σ H D (I.toTry _) h) (fun f s1 hsp => ?_) (fun e s1 he => he)
  · obtain ⟨a, B, sI, pins', σ', H', cls, d, rfl, J', nb, up, sky, na, os, ag, w⟩ := xx
    have J : Inv X pins σ' H' sI := J'.ofTry ok
    have sky' : Sky B (X.env :: X.outer) a (Zc cls d) X.env.locals s'.heap := by rw [← hs]; exact sky
    show wpAny (model X.prog X.w) X.A (noteFrame (.ref a) X.env) _ _ _
    refine Sky.land Zc.steady hfr hf sky' fun h3 fl3 up3 => ?_
    have J3 : Inv X pins σ' H' { s' with heap := h3 } := J.landed nb fl3.1 (up.trans up3) os ag
    obtain ⟨oe3, vs3, he3, hz3, hd3⟩ := fl3.there
    have notFr : ∀ {h : Heap} {o : Obj} {vs : Array Value}, h.FunFrames B (X.env :: X.outer) → h.get? a = some o → o.data = .fields vs → a ∉ frs (X.env :: X.outer) := fun {h o vs} ff e dd hm => by
      obtain ⟨_, o', e', hnf⟩ := ff.mem hm
      rw [e] at e'; cases e'
      exact hnf _ dd
    have nfr := notFr fl3.2.2.1 he3 hd3
    have nL : a ≠ X.env.locals := fun z => nfr (List.mem_filterMap.mpr ⟨X.env, List.mem_cons_self, by rw [hf, z]⟩)
    have nF : a ∉ X.fs := fun hm => by
      obtain ⟨e, he, q⟩ := List.mem_filterMap.mp hm
      exact nfr (List.mem_filterMap.mpr ⟨e, List.mem_cons_of_mem _ he, q⟩)
    have S3 := J3.suite he3 hd3 na nL nF
    have LT : PySem.W.Looks (model X.prog X.w) h3 (typeOf (.ref a)) cls := fun A Q E s k q => wpAny_typeOf_ref (k _ _ he3) (by rw [hz3.1]; exact q)
    have test : ∀ {x : Str} {c : Value} {np : Pos} {Q : Value → Shared → Prop} {E : Value → Shared → Prop}, Names X x c → Q c { s' with heap := h3 } → wpAny (model X.prog X.w) (X.A.mark (some (.ref a))) (eval (.Name x np) X.env) Q E { s' with heap := h3 } := fun {x c np Q E} hc q => by
      obtain ⟨hg, hdbg, hm | ⟨hm, hv, hnn⟩⟩ := hc
      · exact ld_glob (X := X.suite a ((a, oe3) :: (X.pn ++ pins))) S3 hg hm q hdbg
      · exact ld_blt (X := X.suite a ((a, oe3) :: (X.pn ++ pins))) S3 hg hm hv q hnn hdbg
    have go : ∀ {hds' : List ExceptHandler} {l' : List (Value × Option Nat × (Addr → Value → Option Addr → TS))}, HdsA X hds' l' → wManyA X.K Wout D l' cls d σ' H' →
        wpAny (model X.prog X.w) X.A (handleBy (.ref a) X.env hds') (SP X pins D) X.xe { s' with heap := h3 } := by
      intro hds' l' hk
      induction hk with
      | nil =>
        intro w
        refine wpAny_handleBy_nil ?_
        obtain ⟨k1, k2, k3, oe, vs, T, oT, ts', he, hz, hd, h1, hr⟩ := id fl3
        unfold PySem.passOn
        refine wpAny_bind (wpAny_field he hd h1 ?_)
        rw [if_neg (show ¬ ((Value.ref T == Value.none) = true) from by simp)]
        have fin : wpAny (model X.prog X.w) X.A (setFlight (.ref a) X.env.frame) (fun _ s4 => wpAny (model X.prog X.w) X.A (throw (.ref a) : Sem Flow) (SP X pins D) X.xe s4) X.xe { s' with heap := h3 } := by
          rw [hf]
          refine HandSPX.setFlight_upZ fl3 fun h4 hh4 up4 => wpAny_throw (tk _ _ ?_)
          exact ⟨a, B, sI, pins, σ', H', cls, d, rfl, J, nb, (up.trans up3).trans up4, .inr (.inr (by rw [hs]; exact hh4)), na, os, ag, w⟩
        first
          | exact wpAny_bind (wpAny_pure (wpAny_bind fin))
          | exact wpAny_bind fin
      | @plain x c ts b₀ suite np pos' hds2 l2 hc hsu r ih =>
        intro w
        obtain ⟨b, hb1, hyes, hno⟩ := w
        refine wpAny_handleBy_cons (codeAny_handlers_test ?_) (by intro q; cases q)
        have LM := PySem.W.exm_one (M := model X.prog X.w) (J3.kIn) LT hb1
        refine test hc (LM.here ?_)
        cases b with
        | true =>
          refine codeAny_handlers_suite ?_
          refine HandSPX.lands_againZ fl3 fun h4 fl4 up4 => ?_
          have J4 : Inv X pins σ' H' { s' with heap := h4 } := J.landed nb fl4.1 ((up.trans up3).trans up4) os ag
          obtain ⟨oe4, vs4, he4, hz4, hd4⟩ := fl4.there
          have S4 := J4.suite he4 hd4 na nL nF
          refine wpAny_mono ((hsu a oe4 cls d (X.pn ++ pins) hz4 ⟨_, hd4⟩).run [] _ _ H' _ S4 (hyes rfl a na)) (fun f s6 hsp => ?_) (fun _ _ z => False.elim z)
          cases f with
          | next =>
            obtain ⟨σ6, H6, S6, q6⟩ := hsp
            exact ⟨_, _, S6.unsuite ok, q6⟩
          | brk =>
            obtain ⟨σ6, H6, S6, q6⟩ := hsp
            exact ⟨_, _, S6.unsuite ok, q6⟩
          | cont =>
            obtain ⟨σ6, H6, S6, q6⟩ := hsp
            exact ⟨_, _, S6.unsuite ok, q6⟩
          | ret u =>
            obtain ⟨v6, σ6, H6, S6, r6, q6⟩ := hsp
            exact ⟨_, _, _, S6.unsuite ok, r6, q6⟩
        | false =>
          show wpAny _ X.A (handleBy (.ref a) X.env hds2) _ _ _
          exact ih (hno rfl)
      | @named x n i c ts b₀ suite np pos' hds2 l2 hc hi hln hsu r ih =>
        intro w
        obtain ⟨b, hb1, hyes, hno⟩ := w
        have hloc : Loc X.env.scope n := .inl hln
        refine wpAny_handleBy_cons (codeAny_handlers_test ?_) (by intro q; cases q)
        have LM := PySem.W.exm_one (M := model X.prog X.w) (J3.kIn) LT hb1
        refine test hc (LM.here ?_)
        cases b with
        | true =>
          refine codeAny_handlers_suite_as ?_
          refine HandSPX.lands_againZ fl3 fun h4 fl4 up4 => ?_
          have J4 : Inv X pins σ' H' { s' with heap := h4 } := J.landed nb fl4.1 ((up.trans up3).trans up4) os ag
          obtain ⟨oe4, vs4, he4, hz4, hd4⟩ := fl4.there
          have S4 := J4.suite he4 hd4 na nL nF
          refine store_ok (X := X.suite a ((a, oe4) :: (X.pn ++ pins))) (v := .ref a) S4 hN hi hloc rfl (fun s5 S5 => ?_) (.inr hln)
          refine wpAny_mono ((hsu a oe4 cls d (X.pn ++ pins) hz4 ⟨_, hd4⟩).run [] s5 _ H' _ S5 (hyes rfl a na)) (fun f s6 hsp => ?_) (fun _ _ z => False.elim z)
          have end_ : ∀ {σ6 : L2.St} {H6 : Hp} {Q : Shared → Prop}, Inv (X.suite a ((a, oe4) :: (X.pn ++ pins))) [] σ6 H6 s6 → (∀ s7, Inv X pins (σ6.set i none) H6 s7 → Q s7) →
              wpAny (model X.prog X.w) X.A (do bindName X.env n .none; unbindBehindTheSuite X.env n pos') (fun _ s7 => Q s7) X.xe s6 := fun {σ6 H6 Q} S6 hq => gone_ok (S6.unsuite ok) hN hi hln hq
          cases f with
          | next =>
            obtain ⟨σ6, H6, S6, q6⟩ := hsp
            exact end_ S6 fun s7 J7 => ⟨_, _, J7, q6⟩
          | brk =>
            obtain ⟨σ6, H6, S6, q6⟩ := hsp
            exact end_ S6 fun s7 J7 => ⟨_, _, J7, q6⟩
          | cont =>
            obtain ⟨σ6, H6, S6, q6⟩ := hsp
            exact end_ S6 fun s7 J7 => ⟨_, _, J7, q6⟩
          | ret u =>
            obtain ⟨v6, σ6, H6, S6, r6, q6⟩ := hsp
            exact end_ S6 fun s7 J7 => ⟨_, _, _, J7, r6, q6⟩
        | false =>
          show wpAny _ X.A (handleBy (.ref a) X.env hds2) _ _ _
          exact ih (hno rfl)
    exact go hh w
  · cases f with
    | next =>
      obtain ⟨σ', H', J', q⟩ := hsp
      exact wpAny_execs_nil ⟨σ', H', J'.ofTry ok, q⟩
    | brk =>
      obtain ⟨σ', H', J', q⟩ := hsp
      exact ⟨σ', H', J'.ofTry ok, q⟩
    | cont =>
      obtain ⟨σ', H', J', q⟩ := hsp
      exact ⟨σ', H', J'.ofTry ok, q⟩
    | ret u =>
      obtain ⟨v, σ', H', J', r, q⟩ := hsp
      exact ⟨v, σ', H', J'.ofTry ok, r, q⟩
end
end GX

set_option Elab.async false
set_option linter.all false
set_option maxRecDepth 100000
set_option maxHeartbeats 4000000
namespace PySem
set_option maxHeartbeats 1000000 in
theorem gx_meets_enumerate_newB1 {v : Value} {o : Obj} {H : Heap → Prop} (B : Begins v o H) :
    Meets (Builtin.«enumerate.__new__» ⟨[.type "enumerate", v], []⟩) (fun _ R s => H s.heap ∧
      R (.ok (.ret (.ref (s.heap.push o).objs.size))) { s with heap := (s.heap.push o).push { cls := .type "enumerate", data := .fields #[.none, .bool false, .ref s.heap.objs.size, rawInt 0, .none, .none] } }) :=
  .of_wp fun prog w A R s h => by
    obtain ⟨hp, g, d, tk, os⟩ := s; obtain ⟨h1, h⟩ := h
    have hsub := sub_enumerate
    have q1 : ∀ {A' : Around} {E : Value → Shared → Prop} {Q : Value → Shared → Prop}, Q (.ref hp.objs.size) ⟨hp.push o, g, d, tk, os⟩ → wpAny (model prog w) A' (pyIter v) Q E ⟨hp, g, d, tk, os⟩ :=
      fun q => B.iter prog w _ _ ⟨hp, g, d, tk, os⟩ _ h1 q
    wp_walk using q1
    refine wpAny_stack_any fun st => wpAny_pure ?_
    split
    · rename_i c _ _ _ _ _
      cases (c == Value.type "enumerate")
      · wp_walk using q1
        exact ⟨_, rfl, h⟩
      · wp_walk using q1
        exact ⟨_, rfl, h⟩
    · wp_walk using q1
      exact ⟨_, rfl, h⟩
theorem gx_enum1 {prog : Program} {w : World} {A : Around} {E : Value → Shared → Prop} {s : Shared} {v : Value} {o : Obj} {H : Heap → Prop} {Q : Value → Shared → Prop} (B : Begins v o H) (h1 : H s.heap)
    (h : ∀ h', IsEnum h' (s.heap.objs.size + 1) s.heap.objs.size 0 .none → h'.get? s.heap.objs.size = some o → h'.objs.size = s.heap.objs.size + 2 →
      (∀ b o, s.heap.get? b = some o → h'.get? b = some o) → Q (.ref (s.heap.objs.size + 1)) { s with heap := h' }) :
    wpAny (model prog w) A (call (.type "enumerate") [v]) Q E s := by
  refine callType_new F.called_enumerate (by decide) (F.typeCall_enumerate_1 _) (F.newCall_enumerate_1 _) (fun obj => F.args_object_init_2 obj _) F.entry_enumerate_new
    (gx_meets_enumerate_newB1 B) ⟨h1, ?_⟩
  have hz : (s.heap.push o).objs.size = s.heap.objs.size + 1 := Heap.size_push ..
  show _ ∧ _
  rw [hz]
  have he : IsEnum ((s.heap.push o).push { cls := .type "enumerate", data := .fields #[.none, .bool false, .ref s.heap.objs.size, rawInt 0, .none, .none] }) (s.heap.objs.size + 1) s.heap.objs.size 0 .none := by
    have := Heap.get?_push_size (s.heap.push o) (o := { cls := .type "enumerate", data := .fields #[.none, .bool false, .ref s.heap.objs.size, rawInt 0, .none, .none] }) rfl
    rw [hz] at this; exact this
  refine ⟨⟨_, he, rfl⟩, h _ he (Heap.get?_push_of_some _ (Heap.get?_push_size _ B.free)) (by rw [Heap.size_push, hz]) fun b o x => Heap.get?_push_of_some _ (Heap.get?_push_of_some _ x)⟩
end PySem
namespace GX
open PySem PySem.Spec PyProof.Rows L2
/-! ### enumerate(tuple) -/
def IteT (K : PySem.W.Frag) (a : Addr) : It :=
  ⟨fun i H => ∃ (xs : List V) (x : V), SqT K H a xs ∧ xs[i]? = some x, fun i H v H' => ∃ T x, v = .ref T ∧ H T = none ∧ H' = upd H T (.tup [.int (i : Nat), x]) ∧ ∀ xs, SqT K H a xs → xs[i]? = some x, fun i H => ∃ xs : List V, SqT K H a xs ∧ xs.length = i⟩
theorem turn_enumT {P : Program} {w : World} {K : PySem.W.Frag} {elts : List Expr} {kk : Nat} {tpos : Pos} (a e it : Addr) :
    Turn P w K (.Tuple elts kk tpos) (IteT K a) [e, it] e (fun i h => (∃ old, IsEnum h e it ((i : Nat) : Int) old) ∧ h.IsTupleIter it a i ∧ e ≠ it ∧ a ≠ e ∧ a ≠ it) where
  mem := by simp
  obj := fun i h st b hb => by
    obtain ⟨⟨old, he⟩, ⟨o, ho, hc, hd⟩, _⟩ := st
    have e' : b = e ∨ b = it := by simpa using hb
    rcases e' with z | z
    · rw [z]; exact ⟨_, he, fun v q => nomatch q⟩
    · rw [z]; exact ⟨o, ho, fun v q => by rw [hd] at q; cases q⟩
  keep := fun i h h' st k => let ⟨⟨old, he⟩, hi, hne⟩ := st; ⟨⟨old, k e (by simp) _ he⟩, hi.at fun o q => k it (by simp) o q, hne⟩
  item := by
    intro X hP hw hK hc i pins s σ H E I hf st hg
    subst hP hw hK
    obtain ⟨⟨old, he⟩, hit, hne, hae, hai⟩ := st
    obtain ⟨xs, x, hq, hx⟩ := hg
    obtain ⟨its, rv, p, hz⟩ := I.tuple hq
    obtain ⟨u, hu, ru⟩ := rv.get hx
    have hel : e < s.heap.objs.size := Heap.lt_size he
    have hil : it < s.heap.objs.size := by obtain ⟨_, q, _⟩ := hit; exact Heap.lt_size q
    have D := Draws.tuple (prog := X.prog) (w := X.w) (A := X.A.in1) (show X.A.in1.handled = none from I.ok.hd hc) it a hai its.toArray
    have hlt : i < its.toArray.size := by
      rcases Nat.lt_or_ge i its.toArray.size with z | z
      · exact z
      · have z' : its.length ≤ i := by simpa using z
        rw [List.getElem?_eq_none z'] at hu
        cases hu
    refine wpAny_pyNext_enum_itemD D he ⟨hit, (show s.heap.IsTuple a its.toArray from p)⟩ hlt hne (by simp [hne, Ne.symm hae]) fun x1 h' tk hx1 ho hst hT hsz hk => ?_
    have ex1 : x1 = u := by
      have q : its[i]? = some x1 := by simpa using hx1
      rw [hu] at q
      exact (Option.some.inj q).symm
    subst ex1
    refine ⟨_, rfl, wpAny_letOwnedTupleGo_enum (s := { s with heap := h', toks := tk + 1 }) ho fun h'' he' sb => ?_⟩
    have hT2 : h''.get? s.heap.objs.size = some { cls := .type "tuple", data := .seq #[.int i tk, x1] } := (sb.2 _ (Nat.ne_of_gt hel)).trans hT
    have new : ObjOk X.prog X.w (upd H s.heap.objs.size (.tup [.int (i : Nat), x])) h'' s.heap.objs.size (.tup [.int (i : Nat), x]) :=
      ⟨by show 2 ≤ sizeLine; decide, [.int i tk, x1], .cons ⟨_, rfl⟩ (.cons ru .nil), ⟨_, hT2, rfl, _, rfl⟩⟩
    have I1 : Inv X pins σ (upd H s.heap.objs.size (.tup [.int (i : Nat), x])) { s with heap := h'', toks := tk + 1 } :=
      I.turnedNew (ch := [e, it]) (fun b ob hb q => (sb.2 b (fun z => hb (by simp [z]))).trans (hk b ob (fun z => hb (by simp [z])) (fun z => hb (by simp [z])) q)) hf (Nat.le_refl _) new
    refine ⟨.ref s.heap.objs.size, _, I1, rfl, ⟨_, x, rfl, I.hok.fresh (Nat.le_refl _), rfl, fun ys hy => by rw [I.tuple_inj hy hq]; exact hx⟩, ⟨⟨x1, ?_⟩, hst.1.at fun o q => (sb.2 it (Ne.symm hne)).trans q, hne, hae, hai⟩, fun b hb => ?_⟩
    · have e1 : ((i + 1 : Nat) : Int) = (i : Int) + 1 := by omega
      rw [e1]; exact he'
    · have hb' : b < s.heap.objs.size := by
        have e' : b = e ∨ b = it := by simpa using hb
        rcases e' with z | z
        · rw [z]; exact hel
        · rw [z]; exact hil
      rw [upd_ne (Nat.ne_of_lt hb')]
      exact (hf b hb).1
  done := by
    intro X hP hw hK hc i pins s σ H E I hf st hg
    subst hP hw hK
    obtain ⟨⟨old, he⟩, hit, hne, hae, hai⟩ := st
    obtain ⟨xs, hq, hx⟩ := hg
    obtain ⟨its, rv, p, hz⟩ := I.tuple hq
    obtain ⟨f0, f1, f2, f3, f4, f5⟩ := hf it (by simp)
    have hl := rv.length
    have D := Draws.tuple (prog := X.prog) (w := X.w) (A := X.A.in1) (show X.A.in1.handled = none from I.ok.hd hc) it a hai its.toArray
    have e0 : its.toArray.size = i := by simp; omega
    exact wpAny_pyNext_enum_endD D he ⟨by rw [e0]; exact hit, (show s.heap.IsTuple a its.toArray from p)⟩ fun h' eb => ⟨rfl, I.turned (t' := s.toks) (fun b o hb q => eb b o hb q) f0 f1 f3 f4 f5⟩
  self := fun A i s Q E st h => let ⟨⟨_, he⟩, _⟩ := st; wpAny_pyIter_enum he h
/-- enumerate(list or tuple) -/
def iEnumA (K : PySem.W.Frag) (ta : TA) : TI := fun σ H R => ta σ H fun vs H1 => ∃ a xs, vs = [.ref a] ∧ ((SqL K H1 a xs ∧ R (Ite K a) H1) ∨ (SqT K H1 a xs ∧ R (IteT K a) H1))
theorem pi_enumA {X : Cx} {e : Expr} {ta : TA} {p pos tpos : Pos} {elts : List Expr} {kk : Nat} (hg : Gl X "enumerate") (hm : X.mg "enumerate" = none) (ha : PA X [e] ta) (hs : starEach [e] X.env = [(false, eval e X.env)] := by rfl) :
    PI X (.Tuple elts kk tpos) (.Call (.Name "enumerate" p) [e] [] pos) (iEnumA X.K ta) := by
  refine ⟨fun pins s σ H R I h => ?_⟩
  refine Call_ (ld_blt I hg hm boot_enumerate (PyProof.Rows.callWith_type1 (thn (ha.run pos pins s σ H _ I h) fun us s1 ⟨vs, H1, I1, r1, q1⟩ => ?_) hs rfl))
  obtain ⟨a, xs, ex, q⟩ := q1
  subst ex
  cases r1 with
  | cons r rr =>
    cases rr
    cases r
    have fr : ∀ b, b = s1.heap.objs.size + 1 ∨ b = s1.heap.objs.size → FpOk X pins H1 b := fun b e' => by
      have hle : s1.heap.objs.size ≤ b := by
        rcases e' with z | z
        · rw [z]; exact Nat.le_add_right _ _
        · rw [z]; exact Nat.le_refl _
      exact I1.fpOk hle (I1.hok.fresh hle)
    rcases q with ⟨hq, q⟩ | ⟨hq, q⟩
    · obtain ⟨its, rv, p', hz⟩ := I1.list hq
      refine call_enumerate_list p'.isList fun h' he hit hsz hk => wpAny_pyIter_enum he ?_
      have I2 : Inv X pins σ H1 { s1 with heap := h' } := I1.kept (t' := s1.toks) hk
      exact ⟨s1.heap.objs.size + 1, [s1.heap.objs.size + 1, s1.heap.objs.size], _, _, H1, rfl, I2, turn_enum a (s1.heap.objs.size + 1) s1.heap.objs.size, ⟨⟨.none, he⟩, hit, Nat.succ_ne_self _⟩, fun b hb => fr b (by simpa using hb), q⟩
    · obtain ⟨its, rv, p', hz⟩ := I1.tuple hq
      have hal := p'.lt
      refine gx_enum1 (begins_tuple a its.toArray) (show s1.heap.IsTuple a its.toArray from p') fun h' he hit hsz hk => wpAny_pyIter_enum he ?_
      have I2 : Inv X pins σ H1 { s1 with heap := h' } := I1.kept (t' := s1.toks) hk
      exact ⟨s1.heap.objs.size + 1, [s1.heap.objs.size + 1, s1.heap.objs.size], _, _, H1, rfl, I2, turn_enumT a (s1.heap.objs.size + 1) s1.heap.objs.size, ⟨⟨.none, he⟩, ⟨_, hit, rfl, rfl⟩, Nat.succ_ne_self _, Nat.ne_of_lt (Nat.lt_succ_of_lt hal), Nat.ne_of_lt hal⟩, fun b hb => fr b (by simpa using hb), q⟩
/-! ### range(n) as a value; a walk of it -/
theorem cr_range1 {X : Cx} : CallR X (.type "range") (fun vs H Q => ∃ j, vs = [V.int j] ∧ ∀ p, H p = none → Q (.ref p) (upd H p (.rng 0 j))) := by
  intro pins s σ H vs us Q I r h
  obtain ⟨j, rfl, q⟩ := h
  obtain ⟨u1, rfl, ri⟩ := vals1 r
  obtain ⟨t, rfl⟩ := ri
  refine call_range_1 ⟨.ref s.heap.objs.size, upd H s.heap.objs.size (.rng 0 j), I.laid (t' := s.toks + 2) (fun b o e => Heap.get?_push_of_some _ e) (Nat.le_refl _) ?_, rfl, q _ (I.hok.fresh (Nat.le_refl _))⟩
  exact ⟨s.toks, t, s.toks + 1, Heap.get?_push_size _ rfl⟩
/-- a range that stands in H, walked -/
def iRngO (tl : TE) : TI := fun σ H R => tl σ H fun x H1 => ∃ a lo hi, x = .ref a ∧ H1 a = some (.rng lo hi) ∧ (-(2 ^ 62) ≤ lo ∧ lo < 2 ^ 62 ∧ -(2 ^ 62) ≤ hi ∧ hi < 2 ^ 62) ∧ R (Itr lo (hi - lo).toNat) H1
theorem pi_rngO {X : Cx} {tg l : Expr} {tl : TE} (hl : PE X l tl) : PI X tg l (iRngO tl) := by
  refine ⟨fun pins s σ H R I h => ?_⟩
  refine thn (hl.run pins s σ H _ I h) fun v s1 ⟨x, H1, I1, r1, q1⟩ => ?_
  obtain ⟨a, lo, hi, e, ha, ⟨b1, b2, b3, b4⟩, q⟩ := q1
  subst e
  cases r1
  obtain ⟨t, u, v, ho⟩ := (show ∃ t u v, s1.heap.get? a = some { cls := .type "range", data := .fields #[.int lo t, .int hi u, .int 1 v] } from I1.hok a _ ha)
  refine wpAny_pyIter_range ho (small_one b1 b2 b3 b4) ?_
  refine ⟨s1.heap.objs.size, [s1.heap.objs.size], _, _, H1, rfl, I1.kept (t' := s1.toks) fun b o e => Heap.get?_push_of_some _ e, turn_range _ lo (hi - lo).toNat, ?_, fun b hb => ?_, q⟩
  · have e1 : lo + ((0 : Nat) : Int) * 1 = lo := by simp
    have e2 : (((hi - lo).toNat : Nat) : Int) - ((0 : Nat) : Int) = Builtin.Range.rangeSize lo hi 1 := by rw [rangeSize_one]; split <;> omega
    show IsRangeIter _ _ (lo + ((0 : Nat) : Int) * 1) ((((hi - lo).toNat : Nat) : Int) - ((0 : Nat) : Int)) 1
    rw [e1, e2]
    exact Heap.get?_push_size _ rfl
  · have e : b = s1.heap.objs.size := by simpa using hb
    subst e
    exact I1.fpOk (Nat.le_refl _) (I1.hok.fresh (Nat.le_refl _))
end GX
namespace PySem
open SrtO
section
open PyProof.Rows
variable {prog : Program} {w : World} {A : Around} {E : Value → Shared → Prop} {s : Shared}
theorem gx_collect_tuple {l : Addr} {vs : List Value} {Q : List Value → Shared → Prop} (hl : s.heap.IsTuple l vs.toArray)
    (h : Q vs { s with heap := (s.heap.push (seqObj "list" #[] 0)).update s.heap.objs.size (Obj.mapSeq (· ++ vs.toArray)) }) (hsz : vs.length ≤ sizeLine) :
    wpAny (model prog w) A (collect (.ref l)) Q E s := by
  obtain ⟨o, ho, hc, n, hd⟩ := id hl
  unfold collect
  refine wpAny_bind (wpAny_runValue (codeAny_builtin entry_proto_collect' ?_))
  show wpAny _ _ (do again (.builtin "list.__iadd__" ⟨[← newList [], .ref l], []⟩)) _ _ s
  refine wpAny_bind (wpAny_newList (wpAny_pure ⟨Code.quiet_builtin _ (by decide +kernel), codeAny_builtin entry_list_iadd' ?_⟩))
  show wpAny _ _ (Builtin.List.listExtendWith (.ref s.heap.objs.size) (.ref l) (.ref s.heap.objs.size)) _ _ { s with heap := s.heap.push (seqObj "list" #[] 0) }
  unfold Builtin.List.listExtendWith
  have ho' : (s.heap.push (seqObj "list" #[] 0)).get? l = some o := Heap.get?_push_of_some _ ho
  refine wpAny_bind (wpAny_typeOf (T := "tuple") ⟨o, ho', hc⟩ ?_)
  have ht : (Value.type "tuple" == Value.type "tuple") = true := by rfl
  rw [if_pos (by rw [ht]; simp)]
  refine wpAny_bind (listItems_at ho' hd ?_)
  refine wpAny_bind (listItems_at (xs := #[]) (n := 0) (Heap.get?_push_size _ rfl) rfl ?_)
  rw [if_neg (by simp)]
  refine wpAny_bind (listUpdate_at (xs := #[]) (n := 0) (Heap.get?_push_size _ rfl) rfl ?_ (Nat.zero_le _) (by show (#[] ++ vs.toArray).size ≤ sizeLine + 1; simp only [Array.size_append, List.size_toArray, List.length_nil]; omega))
  refine wpAny_pure ?_
  show wpAny (model prog w) A (do
      let o ← load s.heap.objs.size
      match o.data with
      | .seq xs _ => pure xs.toList
      | _ => unsupported "internal:collect") Q E { s with heap := (s.heap.push (seqObj "list" #[] 0)).update s.heap.objs.size (Obj.mapSeq (· ++ vs.toArray)) }
  refine wpAny_bind (wpAny_load (get?_update_seq (Heap.get?_push_size _ rfl) _) ?_)
  show wpAny _ _ (pure ((#[] : Array Value) ++ vs.toArray).toList) Q E _
  rw [show ((#[] : Array Value) ++ vs.toArray).toList = vs by simp]
  exact wpAny_pure h
theorem gx_sorted_ordT {l : Addr} {vs : List Value} {ltv : Value → Value → Bool} {Q : Value → Shared → Prop} (O : Swo ltv) (hl : s.heap.IsTuple l vs.toArray) (hz : vs.length ≤ sizeLine)
    (hS : 2 ≤ vs.length → ∀ (h₁ : Heap) (a : Addr), h₁.get? a = some (seqObj "list" vs.toArray 0) → (∀ b o, s.heap.get? b = some o → b ≠ a ∧ h₁.get? b = some o) → SortableO prog w A.in1.in1 { s with heap := h₁ } a vs ltv)
    (h : ∀ out : List Value, Srtd ltv out → Stb ltv out vs → Q (.ref (s.heap.objs.size + 1)) { s with heap := sortedAll s.heap vs out.toArray }) :
    wpAny (model prog w) A (call (.builtin "sorted") [.ref l]) Q E s := by
  refine Calls.call_function_entry kind_sorted plain_sorted entry_sorted (args_sorted1 _) ?_
  unfold Builtin.«sorted»
  refine wpAny_bind (m := checkCount "sorted" 1 1 _) (wpAny_pure ?_)
  refine wpAny_bind (gx_collect_tuple hl ?_ hz)
  refine wpAny_bind (wpAny_newList ?_ hz)
  have hsz : ((s.heap.push (seqObj "list" #[] 0)).update s.heap.objs.size (Obj.mapSeq (· ++ vs.toArray))).objs.size = s.heap.objs.size + 1 := by
    rw [Heap.size_update, size_push']
  have hoL : (((s.heap.push (seqObj "list" #[] 0)).update s.heap.objs.size (Obj.mapSeq (· ++ vs.toArray))).push (seqObj "list" vs.toArray 0)).get? (s.heap.objs.size + 1) = some (seqObj "list" vs.toArray 0) := by
    rw [← hsz]; exact Heap.get?_push_size _ rfl
  have keep : ∀ b o, s.heap.get? b = some o → b ≠ s.heap.objs.size + 1 ∧ (((s.heap.push (seqObj "list" #[] 0)).update s.heap.objs.size (Obj.mapSeq (· ++ vs.toArray))).push (seqObj "list" vs.toArray 0)).get? b = some o := fun b o q => by
    have hlt : b < s.heap.objs.size := Heap.lt_size q
    refine ⟨Nat.ne_of_lt (Nat.lt_succ_of_lt hlt), Heap.get?_push_of_some _ ?_⟩
    rw [Heap.get?_update_ne _ _ _ _ (Nat.ne_of_lt hlt)]
    exact Heap.get?_push_of_some _ q
  show wpAny _ _ _ _ _ { s with heap := ((s.heap.push (seqObj "list" #[] 0)).update s.heap.objs.size (Obj.mapSeq (· ++ vs.toArray))).push (seqObj "list" vs.toArray 0) }
  rw [hsz]
  refine wpAny_bind (wpAny_holding (wpAny_call_entry slot_list_sort ⟨_, hoL, rfl⟩ entry_list_sort (list_sort_ord O hoL hz (fun h2 => hS h2 _ _ hoL keep) fun out hs hb => ⟨_, rfl, ?_⟩) (args_list_sort _)))
  exact wpAny_pure ⟨_, rfl, h out hs hb⟩
end
end PySem
namespace GX
open PySem PySem.Spec PyProof.Rows L2
/-- sorted(list or tuple of ints), any number of them -/
def rSortedIA (K : PySem.W.Frag) : List V → Hp → VK → Prop := fun vs H Q => ∃ (a : Addr) (ns : List Int), vs = [V.ref a] ∧ (SqL K H a (ns.map V.int) ∨ SqT K H a (ns.map V.int)) ∧
  ∀ (ns' : List Int) (p : Addr), ns'.Perm ns → ns'.Pairwise (· ≤ ·) → H p = none → Q (.ref p) (upd H p (.lst (ns'.map V.int)))
theorem cr_sortedIA {X : Cx} : CallR X (.builtin "sorted") (rSortedIA X.K) := by
  intro pins s σ H vs us Q I r h
  obtain ⟨a, ns, rfl, hs, q⟩ := h
  rcases hs with hs | hs
  · exact cr_sortedI pins s σ H _ us Q I r ⟨a, ns, rfl, hs, q⟩
  · obtain ⟨its, rv, hl, hz⟩ := I.tuple hs
    rw [Vals.ref1 r]
    have hi := rv.ints
    refine gx_sorted_ordT SrtO.swo_int (show s.heap.IsTuple a its.toArray from hl) (by rw [← rv.length]; exact hz) (fun h2 h₁ a' _ _ => SrtO.ints_sortable hi h2) fun out h1 h2 => ?_
    obtain ⟨k1, k2, k3⟩ := SrtO.ints_out hi h1 h2
    obtain ⟨ep, he'⟩ := PyProof.Rows.sortedAll_at s.heap its out.toArray
    have hlen : ((out.map SrtO.iv).map V.int).length ≤ sizeLine := by
      rw [List.length_map, k2.length_eq]
      rw [List.length_map] at hz
      exact hz
    exact ⟨.ref _, upd H (s.heap.objs.size + 1) (.lst ((out.map SrtO.iv).map V.int)), I.laid (t' := s.toks) (fun _ _ => PyProof.Rows.sortedAll_old) (Nat.le_succ _) ⟨hlen, out, ep, vals_of_ints k1, he'⟩, rfl, q _ _ k2 k3 (I.hok.fresh (Nat.le_succ _))⟩
end GX

set_option Elab.async false
set_option linter.all false
set_option maxRecDepth 100000
set_option maxHeartbeats 4000000
namespace PySem
theorem gx_tuple_mul1 (l : Addr) (items : Array Value) (n : Nat) (dd : Option Addr) (sl : Array (Option Value)) (u : Tok) :
    Meets (Builtin.«tuple.__mul__» { pos := [.ref l, .int 1 u] }) fun _ R s => s.heap.get? l = some { cls := .type "tuple", dict := dd, data := .seq items n, slots := sl } ∧ R (.ok (.ret (.ref l))) s :=
  .of_wp fun prog w A R s h => by
    obtain ⟨hp, g, d, tk, os⟩ := s; obtain ⟨h1, h⟩ := h
    wp_walk
    exact ⟨_, rfl, h⟩
theorem gx_tuple_mul0 (l : Addr) (items : Array Value) (n : Nat) (dd : Option Addr) (sl : Array (Option Value)) (u : Tok) :
    Meets (Builtin.«tuple.__mul__» { pos := [.ref l, .int 0 u] }) fun _ R s => s.heap.get? l = some { cls := .type "tuple", dict := dd, data := .seq items n, slots := sl } ∧ items.isEmpty = false ∧ R (.ok (.ret (Value.ref s.heap.objs.size))) { s with heap := s.heap.push { cls := Value.type "tuple", data := Data.seq #[] }, toks := s.toks } :=
  .of_wp fun prog w A R s h => by
    obtain ⟨hp, g, d, tk, os⟩ := s; obtain ⟨h1, h2, h⟩ := h
    wp_walk
    exact ⟨_, rfl, h⟩
end PySem
namespace L2
open PySem PySem.Spec PyProof.Rows
/-- tuple * k, k from 0 on -/
def rRepA (K : PySem.W.Frag) : R2 := fun x y H Q => ∃ l k xs, x = .ref l ∧ y = .int k ∧ SqT K H l xs ∧ xs ≠ [] ∧ 0 ≤ k ∧ k ≤ 1000 ∧ xs.length ≤ 1000 ∧ (k = 1 → Q (.ref l) H) ∧ (k ≠ 1 → ∀ p, H p = none → Q (.ref p) (upd H p (.tup (List.replicate k.toNat xs).flatten)))
section
variable {X : Cx}
theorem op_repA : OpR X (binaryOp .Mult) (rRepA X.K) := by
  intro pins s σ H x y v u Q I rx ry h
  obtain ⟨l, k, xs, rfl, rfl, hT, hne, h1, h2, hz, q1, q2⟩ := h
  by_cases k2 : 2 ≤ k
  · exact op_repT pins s σ H _ _ v u Q I rx ry ⟨l, k, xs, rfl, rfl, hT, hne, k2, h2, hz, q2 (by omega)⟩
  cases rx
  obtain ⟨t, rfl⟩ := ry
  obtain ⟨its, r, ⟨⟨cls, dd, data, sl⟩, ho, hc, n, hd⟩, hs⟩ := I.tuple hT
  simp only at hc hd
  subst hc hd
  have hle : its.length = xs.length := r.length.symm
  have hn : its ≠ [] := fun e => hne (by
    rw [e] at hle
    exact List.eq_nil_of_length_eq_zero hle.symm)
  have hi : its.toArray.isEmpty = false := by
    cases its with
    | nil => exact absurd rfl hn
    | cons a b => rfl
  by_cases k1 : k = 1
  · subst k1
    refine wpAny_binaryOp_repeat_ref (T := "tuple") (U := "int") (by decide) ⟨_, ho, rfl⟩ (fun s' => typeIs_int s' 1 t) noFill_tuple_mul F.fills_int_mul F.slot_int_rmul repeat_tuple F.slot_int_index.lookup
      (call_meets F.slot_int_rmul (typeIs_int s 1 t) F.entry_int_rmul (F.args_int_rmul_2 _ _) (int_rmul_tuple 1 t l its.toArray n dd sl)
        ⟨ho, rfl, ⟨_, ho, rfl⟩, call_meets F.slot_tuple_mul ⟨_, ho, rfl⟩ F.entry_tuple_mul (F.args_tuple_mul_2 _ _) (gx_tuple_mul1 l its.toArray n dd sl t) ⟨ho, ?_⟩⟩)
    exact ⟨.ref l, H, I, rfl, q1 rfl⟩
  · have k0 : k = 0 := by omega
    subst k0
    refine wpAny_binaryOp_repeat_ref (T := "tuple") (U := "int") (by decide) ⟨_, ho, rfl⟩ (fun s' => typeIs_int s' 0 t) noFill_tuple_mul F.fills_int_mul F.slot_int_rmul repeat_tuple F.slot_int_index.lookup
      (call_meets F.slot_int_rmul (typeIs_int s 0 t) F.entry_int_rmul (F.args_int_rmul_2 _ _) (int_rmul_tuple 0 t l its.toArray n dd sl)
        ⟨ho, rfl, ⟨_, ho, rfl⟩, call_meets F.slot_tuple_mul ⟨_, ho, rfl⟩ F.entry_tuple_mul (F.args_tuple_mul_2 _ _) (gx_tuple_mul0 l its.toArray n dd sl t) ⟨ho, hi, ?_⟩⟩)
    refine ⟨.ref s.heap.objs.size, _, I.laid (t' := s.toks) (o := .tup []) (fun b ob q => Heap.get?_push_of_some _ q) (Nat.le_refl _) ?_, rfl, q2 k1 _ (I.hok.fresh (Nat.le_refl _))⟩
    exact ⟨Nat.zero_le _, [], .nil, IsTup.new _ _⟩
end
end L2

set_option Elab.async false
set_option linter.all false
set_option maxRecDepth 100000
set_option maxHeartbeats 4000000
namespace L2
open PySem PySem.Spec PyProof.Rows
section
variable {X : Cx} {CX : CXT} {k : Nat} {f C : Addr} {fd : FuncData} {ps ks : List Str} {sp : Sp} {E : St → XK} {x m : Str} {p pos apos : Pos} {e o : Expr} {es : List Expr} {kws : List Keyword} {te ta : TE} {t tk : TA} {g : List Value → List Value → List Value} {gV : List V → List V → List V}
/-- a call with keywords inside a try -/
def tCallKS (sp : Sp) (gV : List V → List V → List V) (E : St → XK) (t tk : TA) : TE := fun σ H Q => t σ H fun vs H1 => tk σ H1 fun zs H2 => sp (gV vs zs) H2 Q (E σ)
theorem run_fnks {pins : List (Addr × Obj)} {σ : St} {H : Hp} {s : Shared} {Q : VK} {us ws : List Value} {vs zs : List V} (F : FnOk X.prog X.w X.K X.mg X.base CX k f fd ps sp) (hr : Room k X.A) (hb : KBinds X.K fd ps ks g gV) (hx : PassesAt CX X σ (E σ))
    (I : Inv X pins σ H s) (r : Vals vs us) (rz : Vals zs ws) (h : sp (gV vs zs) H Q (E σ)) : wpAny (model X.prog X.w) X.A (call (.ref f) us (ks.zip ws)) (EP X pins σ Q) X.xe s := by
  have r2 := hb.rel r rz
  have hl : (g us ws).length = ps.length := by rw [← r2.length]; exact F.len _ _ _ _ h
  refine wpAny_call (codeAny_mono (F.run X.A X.stack s H ⟨us, ks.zip ws⟩ (g us ws) (gV vs zs) Q (E σ) hr I.env0 (hb.to s us ws I.kIn hl) r2 h) fun r s' hq => ?_)
  cases r with
  | error e => exact hx pins H s e s' I hq
  | ok fl =>
    cases fl with
    | ret u => exact I.after hq
    | next => exact False.elim hq
    | brk => exact False.elim hq
    | cont => exact False.elim hq
theorem pe_callKS (F : FnOk X.prog X.w X.K X.mg X.base CX k f fd ps sp) (hr : Room k X.A) (hg : Gl X x) (hm : X.mg x = some (.ref f)) (hk : PySem.W.keepIn X.K (.ref f) = true) (hb : KBinds X.K fd ps ks g gV) (hx : ∀ σ, PassesAt CX X σ (E σ))
    (ha : PA X (e :: es) t) (hkw : PK X kws tk) (hall : (backToKw pos (keywordEach kws X.env)).all (·.1.isSome) = true := by rfl) (hks : (backToKw pos (keywordEach kws X.env)).filterMap (·.1) = ks := by rfl)
    (hdb : (x == ("__debug__" : Str)) = false := by decide) (he : starEach (e :: es) X.env = (false, eval e X.env) :: starEach es X.env := by rfl)
    (hpl : ((backTo pos (starEach (e :: es) X.env)).any (·.1) || (backToKw pos (keywordEach kws X.env)).any (·.1.isNone)) = false := by rfl) :
    PE X (.Call (.Name x p) (e :: es) kws pos) (tCallKS sp gV E t tk) := by
  refine ⟨fun pins s σ H Q I h => ?_⟩
  refine wpAny_Call_Name_kw (ld_glob I hg hm ?_ hdb)
  refine PySem.W.callWith_KW (h₀ := X.base) I.ok.mod.kin hk hall (thn (ha.run pos pins s σ H _ I h) fun us s1 ⟨vs, H1, I1, r, q⟩ => ?_) hpl he
  refine thn (hkw.run pos pins s1 σ H1 _ I1 q) fun ws s2 ⟨zs, H2, I2, rz, q2⟩ => ⟨I2.kIn, ?_⟩
  rw [hks]
  exact run_fnks F hr hb (hx σ) I2 r rz q2
end
end L2

set_option Elab.async false
set_option linter.all false
set_option maxRecDepth 100000
set_option maxHeartbeats 4000000
namespace K7
open PySem PySem.Spec PyProof.Rows L2 GX NdefX
theorem same_upd {H : Hp} {p : Addr} {o : HO} (h : H p = none) : Same H (upd H p o) := fun b x e => by
  rw [upd_ne (ne_of_none e h)]
  exact e
/-- a list or a tuple of ours -/
def Sq (H : Hp) (a : Addr) (xs : List V) : Prop := H a = some (.lst xs) ∨ H a = some (.tup xs)
theorem Sq.same {H H' : Hp} {a : Addr} {xs : List V} (s : Same H H') (h : Sq H a xs) : Sq H' a xs := h.elim (fun z => .inl (s _ _ z)) fun z => .inr (s _ _ z)
theorem sqL {K : PySem.W.Frag} {H : Hp} {a : Addr} {xs : List V} (h : H a = some (.lst xs)) : SqL K H a xs := .inl (.inl h)
theorem sqT {K : PySem.W.Frag} {H : Hp} {a : Addr} {xs : List V} (h : H a = some (.tup xs)) : SqT K H a xs := .inl (.inl h)
theorem Sq.lt {K : PySem.W.Frag} {H : Hp} {a : Addr} {xs : List V} (h : Sq H a xs) : SqL K H a xs ∨ SqT K H a xs := h.elim (fun z => .inl (sqL z)) fun z => .inr (sqT z)
theorem Sq.ty {K : PySem.W.Frag} {H : Hp} {a : Addr} {xs : List V} (h : Sq H a xs) : TyX K H (.ref a) (.type "list") ∨ TyX K H (.ref a) (.type "tuple") := h.elim (fun z => .inl (.base (.lst z))) fun z => .inr (.base (.tup z))
theorem new_ne {H : Hp} {a p : Addr} {o : HO} (h : H a = some o) (np : H p = none) : a ≠ p := ne_of_none h np
/-- a walk of a list or a tuple -/
def iSeq (K : PySem.W.Frag) (tl : TE) : TI := fun σ H R => tl σ H fun x H1 => ∃ a xs, x = .ref a ∧ ((SqL K H1 a xs ∧ R (Itl K a) H1) ∨ (SqT K H1 a xs ∧ R (Itt K a) H1))
theorem pi_seq {X : Cx} {tg l : Expr} {tl : TE} (hl : PE X l tl) : PI X tg l (iSeq X.K tl) := by
  refine ⟨fun pins s σ H R I h => ?_⟩
  refine thn (hl.run pins s σ H _ I h) fun v s1 ⟨x, H1, I1, r1, q1⟩ => ?_
  obtain ⟨a, xs, e, q⟩ := q1
  subst e
  cases r1
  rcases q with ⟨hq, q⟩ | ⟨hq, q⟩
  · obtain ⟨its, rv, p, hz⟩ := I1.list hq
    refine wpAny_pyIter_list p.isList ?_
    refine ⟨s1.heap.objs.size, [s1.heap.objs.size], _, _, H1, rfl, I1.kept (t' := s1.toks) fun b o e => Heap.get?_push_of_some _ e, turn_list a _, ⟨_, Heap.get?_push_size _ rfl, rfl, rfl⟩, fun b hb => ?_, q⟩
    have e : b = s1.heap.objs.size := by simpa using hb
    subst e
    exact I1.fpOk (Nat.le_refl _) (I1.hok.fresh (Nat.le_refl _))
  · obtain ⟨its, rv, p, hz⟩ := I1.tuple hq
    refine wpAny_pyIter_tuple (show s1.heap.IsTuple a its.toArray from p) ?_
    refine ⟨s1.heap.objs.size, [s1.heap.objs.size], _, _, H1, rfl, I1.kept (t' := s1.toks) fun b o e => Heap.get?_push_of_some _ e, turn_tuple a _, ⟨_, Heap.get?_push_size _ rfl, rfl, rfl⟩, fun b hb => ?_, q⟩
    have e : b = s1.heap.objs.size := by simpa using hb
    subst e
    exact I1.fpOk (Nat.le_refl _) (I1.hok.fresh (Nat.le_refl _))
def wholeV (l m : Int) : V → Bool
  | .int i => decide (l ≤ i) && decide (i ≤ m)
  | _ => false
def Scal (x : V) : Prop := x = .non ∨ (∃ i, x = .int i) ∨ ∃ z, x = .str z
theorem lcGen {J : It} {n : Nat} {g : TG} {tt : TT} {te : TE} {vs : List Nat} {σ : L2.St} {H1 : Hp} {D : Addr} {Qd : Hp → Prop} (keep : Nat → Bool) (vals : Nat → V) (nD : H1 D = none) (hn : n ≤ 4000)
    (go : ∀ i H, i < n → Same H1 H → J.go i H) (stop : ∀ H, Same H1 H → J.stop n H)
    (turn : ∀ i x H H' (Qk : VK) (Qn : Hp → Prop), i < n → Same H1 H → J.yld i H x H' → (∀ H4, Same H H4 → keep i = true → Qk (vals i) H4) → (∀ H4, Same H H4 → keep i = false → Qn H4) →
      g x (wipe σ vs) H' fun σ2 H2 => wipe σ2 vs = wipe σ vs ∧ tt σ2 H2 fun b H3 => if b = true then te σ2 H3 Qk else Qn H3)
    (done : ∀ H, Same H1 H → H D = some (.lst (((List.range n).filter keep).map vals)) → Qd H) :
    ∃ W : Nat → Nat → Hp → Prop, (∃ m, W 0 m (upd H1 D (.lst []))) ∧ ∀ i m H, W i m H →
      (J.stop i H ∧ Qd H) ∨ (J.go i H ∧ ∃ Nx : Hp → Prop, (∀ H', Nx H' → ∃ m', m' < m ∧ W (i + 1) m' H') ∧ ∀ x H', J.yld i H x H' → g x (wipe σ vs) H' fun σ2 H2 => wipe σ2 vs = wipe σ vs ∧ tt σ2 H2 fun b H3 =>
        if b = true then te σ2 H3 fun y H4 => ∃ acc, H4 D = some (.lst acc) ∧ acc.length < sizeLine ∧ Nx (upd H4 D (.lst (acc ++ [y]))) else Nx H3) := by
  refine ⟨fun i m H => m = n - i ∧ i ≤ n ∧ Same H1 H ∧ H D = some (.lst (((List.range i).filter keep).map vals)), ⟨n, rfl, Nat.zero_le _, same_upd nD, upd_same⟩, ?_⟩
  rintro i m H ⟨rfl, hi, sm, eD⟩
  by_cases hlt : i < n
  · refine .inr ⟨go i H hlt sm, fun H' => Same H1 H' ∧ H' D = some (.lst (((List.range (i + 1)).filter keep).map vals)), fun H' p => ⟨n - (i + 1), by omega, rfl, hlt, p.1, p.2⟩, fun x H' y => ?_⟩
    refine turn i x H H' _ _ hlt sm y (fun H4 s4 hk => ⟨_, s4 _ _ eD, ?_, ?_, ?_⟩) (fun H4 s4 hk => ⟨sm.trans s4, ?_⟩)
    · rw [List.length_map]
      have h1 := List.length_filter_le keep (List.range i)
      rw [List.length_range] at h1
      rw [sizeLine_eq]
      omega
    · exact fun b o e => by
        rw [upd_ne (ne_of_none e nD)]
        exact s4 _ _ (sm _ _ e)
    · rw [upd_same, List.range_succ, List.filter_append, List.map_append]
      simp [hk]
    · rw [s4 _ _ eD, List.range_succ, List.filter_append, List.map_append]
      simp [hk]
  · have e : i = n := by omega
    subst e
    exact .inl ⟨stop H sm, done H sm eD⟩
theorem lcMap {J : It} {n : Nat} {g : TG} {te : TE} {vs : List Nat} {σ : L2.St} {H1 : Hp} {D : Addr} {Qd : Hp → Prop} (vals : Nat → V) (nD : H1 D = none) (hn : n ≤ 4000)
    (go : ∀ i H, i < n → Same H1 H → J.go i H) (stop : ∀ H, Same H1 H → J.stop n H)
    (turn : ∀ i x H H' (Qk : VK) (Qn : Hp → Prop), i < n → Same H1 H → J.yld i H x H' → (∀ H4, Same H H4 → Qk (vals i) H4) → g x (wipe σ vs) H' fun σ2 H2 => wipe σ2 vs = wipe σ vs ∧ tYes σ2 H2 fun b H3 => if b = true then te σ2 H3 Qk else Qn H3)
    (done : ∀ H, Same H1 H → H D = some (.lst ((List.range n).map vals)) → Qd H) :
    ∃ W : Nat → Nat → Hp → Prop, (∃ m, W 0 m (upd H1 D (.lst []))) ∧ ∀ i m H, W i m H →
      (J.stop i H ∧ Qd H) ∨ (J.go i H ∧ ∃ Nx : Hp → Prop, (∀ H', Nx H' → ∃ m', m' < m ∧ W (i + 1) m' H') ∧ ∀ x H', J.yld i H x H' → g x (wipe σ vs) H' fun σ2 H2 => wipe σ2 vs = wipe σ vs ∧ tYes σ2 H2 fun b H3 =>
        if b = true then te σ2 H3 fun y H4 => ∃ acc, H4 D = some (.lst acc) ∧ acc.length < sizeLine ∧ Nx (upd H4 D (.lst (acc ++ [y]))) else Nx H3) :=
  lcGen (tt := tYes) (fun _ => true) vals nD hn go stop (fun i x H H' Qk Qn h1 h2 h3 h4 _ => turn i x H H' Qk Qn h1 h2 h3 fun H4 s4 => h4 H4 s4 rfl)
    (fun H s e => done H s (by rw [e, List.filter_eq_self.mpr (fun _ _ => rfl)]))
def LcR (J : It) (g : TG) (tt : TT) (te : TE) (vs : List Nat) (σ : L2.St) (H1 : Hp) (Q : VK) : Prop := ∀ D, H1 D = none → ∃ W : Nat → Nat → Hp → Prop, (∃ m, W 0 m (upd H1 D (.lst []))) ∧ ∀ i m H, W i m H →
  (J.stop i H ∧ Q (.ref D) H) ∨ (J.go i H ∧ ∃ Nx : Hp → Prop, (∀ H', Nx H' → ∃ m', m' < m ∧ W (i + 1) m' H') ∧ ∀ x H', J.yld i H x H' → g x (wipe σ vs) H' fun σ2 H2 => wipe σ2 vs = wipe σ vs ∧ tt σ2 H2 fun b H3 =>
    if b = true then te σ2 H3 fun y H4 => ∃ acc, H4 D = some (.lst acc) ∧ acc.length < sizeLine ∧ Nx (upd H4 D (.lst (acc ++ [y]))) else Nx H3)
theorem map_getD {α : Type} (f : V → α) (d : V) : ∀ xs : List V, (List.range xs.length).map (fun i => f (xs.getD i d)) = xs.map f
  | [] => rfl
  | x :: r => by
    rw [List.length_cons, List.range_succ_eq_map, List.map_cons, List.map_map, List.map_cons]
    exact congrArg (f x :: ·) (map_getD f d r)
theorem lcSeq {K : PySem.W.Frag} {a : Addr} {xs : List V} {g : TG} {te : TE} {vs : List Nat} {σ : L2.St} {H1 : Hp} {Q : VK} (vals : V → V) (hq : Sq H1 a xs) (hn : xs.length ≤ 4000)
    (turn : ∀ (i : Nat) (x : V) (H : Hp) (Qk : VK) (Qn : Hp → Prop), xs[i]? = some x → Same H1 H → (∀ H4, Same H H4 → Qk (vals x) H4) → g x (wipe σ vs) H fun σ2 H2 => wipe σ2 vs = wipe σ vs ∧ tYes σ2 H2 fun b H3 => if b = true then te σ2 H3 Qk else Qn H3)
    (done : ∀ D H, H1 D = none → Same H1 H → H D = some (.lst (xs.map vals)) → Q (.ref D) H) :
    (SqL K H1 a xs ∧ LcR (Itl K a) g tYes te vs σ H1 Q) ∨ (SqT K H1 a xs ∧ LcR (Itt K a) g tYes te vs σ H1 Q) := by
  have gd : ∀ {i : Nat} {x : V}, xs[i]? = some x → xs.getD i .non = x := fun {i x} h => by
    rw [List.getD_eq_getElem?_getD, h]
    rfl
  rcases hq with hq | hq
  · refine .inl ⟨sqL hq, fun D nD => lcMap (n := xs.length) (fun i => vals (xs.getD i .non)) nD hn (fun i H h s => ⟨xs, xs[i], sqL (s _ _ hq), List.getElem?_eq_getElem h⟩) (fun H s => ⟨xs, sqL (s _ _ hq), Nat.le_refl _⟩)
      (fun i x H H' Qk Qn h s y hk => ?_) (fun H s e => done D H nD s (by rw [e, map_getD]))⟩
    obtain ⟨rfl, y⟩ := y
    have hx := y xs (sqL (s _ _ hq))
    exact turn i x _ Qk Qn hx s fun H4 s4 => by
      have z := hk H4 s4
      rw [gd hx] at z
      exact z
  · refine .inr ⟨sqT hq, fun D nD => lcMap (n := xs.length) (fun i => vals (xs.getD i .non)) nD hn (fun i H h s => ⟨xs, xs[i], sqT (s _ _ hq), List.getElem?_eq_getElem h⟩) (fun H s => ⟨xs, sqT (s _ _ hq), Nat.le_refl _⟩)
      (fun i x H H' Qk Qn h s y hk => ?_) (fun H s e => done D H nD s (by rw [e, map_getD]))⟩
    obtain ⟨rfl, y⟩ := y
    have hx := y xs (sqT (s _ _ hq))
    exact turn i x _ Qk Qn hx s fun H4 s4 => by
      have z := hk H4 s4
      rw [gd hx] at z
      exact z
theorem PE.imp {X : Cx} {e : Expr} {t t' : TE} (h : PE X e t) (i : ∀ σ H Q, t' σ H Q → t σ H Q) : PE X e t' := ⟨fun pins s σ H Q I q => h.run pins s σ H Q I (i σ H Q q)⟩
theorem PS.imp {X : Cx} {e : Stmt} {t t' : TS} (h : PS X e t) (i : ∀ D σ H, t' D σ H → t D σ H) : PS X e t' := ⟨fun pins s σ H D I q => h.run pins s σ H D I (i D σ H q)⟩
theorem wipe1 (σ : L2.St) (c : Nat) (x : V) : (wipe σ [c]).set c (some x) = σ.set c (some x) := by
  show (σ.set c none).set c (some x) = _
  rw [List.set_set]
theorem wipe2 (σ : L2.St) (c : Nat) (x : V) : wipe (σ.set c (some x)) [c] = wipe σ [c] := by
  show (σ.set c (some x)).set c none = σ.set c none
  rw [List.set_set]
def tMapSeq (j c : Nat) (te : TE) : TE := fun σ H Q => ∃ (a : Addr) (xs : List V) (vals : V → V), σ[j]? = some (some (.ref a)) ∧ Sq H a xs ∧ xs.length ≤ 4000 ∧
  (∀ (i : Nat) (x : V) (H2 : Hp) (Qk : VK), xs[i]? = some x → Same H H2 → (∀ H4, Same H2 H4 → Qk (vals x) H4) → te (σ.set c (some x)) H2 Qk) ∧
  ∀ D H', H D = none → Same H H' → H' D = some (.lst (xs.map vals)) → Q (.ref D) H'
theorem tMapSeq_ok {K : PySem.W.Frag} {j c : Nat} {te : TE} {σ : L2.St} {H : Hp} {Q : VK} (h : tMapSeq j c te σ H Q) : tLc (iSeq K (tVar j)) (gName c) tYes te [c] σ H Q := by
  obtain ⟨a, xs, vals, hj, hq, hn, turn, done⟩ := h
  refine ⟨.ref a, hj, a, xs, rfl, lcSeq (g := gName c) (te := te) (vs := [c]) (σ := σ) (Q := Q) vals hq hn (fun i x H2 Qk Qn hx s hk => ?_) done⟩
  show wipe ((wipe σ [c]).set c (some x)) [c] = wipe σ [c] ∧ (if true = true then te ((wipe σ [c]).set c (some x)) H2 Qk else Qn H2)
  rw [wipe1, wipe2]
  exact ⟨rfl, iteT (turn i x H2 Qk hx s hk)⟩
theorem getD_of {xs : List V} {i : Nat} {x d : V} (h : xs[i]? = some x) : xs.getD i d = x := by
  rw [List.getD_eq_getElem?_getD, h]
  rfl
theorem dpInts {K : PySem.W.Frag} {H : Hp} : ∀ ns : List Int, DpAll K H (ns.map V.int) (ns.map PyData.int)
  | [] => .nil
  | i :: r => .cons (.int i) (dpInts r)
theorem canInts : ∀ ns : List Int, PyData.canLayAll0 (ns.map PyData.int) = true
  | [] => rfl
  | i :: r => by
    show (PyData.canLay0 (.int i) && PyData.canLayAll0 (r.map PyData.int)) = true
    rw [canInts r]
    rfl
theorem depInts : ∀ ns : List Int, PyData.depthAll (ns.map PyData.int) = 0
  | [] => rfl
  | i :: r => by
    show max 0 (PyData.depthAll (r.map PyData.int)) = 0
    rw [depInts r]
    rfl
theorem eqvInts : ∀ xs ys : List Int, PyData.eqvAll (xs.map PyData.int) (ys.map PyData.int) = decide (xs = ys)
  | [], [] => by simp [PyData.eqvAll]
  | [], _ :: _ => by simp [PyData.eqvAll]
  | _ :: _, [] => by simp [PyData.eqvAll]
  | x :: xs, y :: ys => by
    rw [List.map_cons, List.map_cons, PyData.eqvAll, eqvInts xs ys, PyData.eqv]
    by_cases h : x = y
    · subst h
      by_cases h2 : xs = ys <;> simp [h2]
    · simp [h]
theorem cut1 (xs : List V) : cutV xs (some 1) none = xs.tail := by
  unfold cutV
  rw [show (some (1 : Int)) = some ((1 : Nat) : Int) from rfl, HT.sIx_nat]
  show List.take (xs.length - min 1 xs.length) (List.drop (min 1 xs.length) xs) = _
  cases xs with
  | nil => rfl
  | cons x r =>
    rw [show min 1 (x :: r).length = 1 by rw [List.length_cons]; omega]
    show List.take (r.length + 1 - 1) r = r
    rw [List.take_of_length_le (by omega)]
theorem lenApp (a b : Str) : (a ++ b).length = a.length + b.length := Array.size_append
def Rai (E : XK) (C : Addr) (H : Hp) (fs : List (Str × V)) : Prop := ∀ d H', Same H H' → H' d = some (.xd fs) → E (.ref C) (some d) H'
theorem Rai.same {E : XK} {C : Addr} {H H1 : Hp} {fs : List (Str × V)} (h : Rai E C H fs) (s : Same H H1) : Rai E C H1 fs := fun d H' s' e => h d H' (s.trans s') e
theorem xsame {H1 : Hp} {a dx : Addr} {H2 : Hp} {o : HO} (na : H1 a = none) (nd : H1 dx = none) (k : ∀ b, b ≠ a → b ≠ dx → H2 b = H1 b) : Same H1 (upd (del H2 a) dx o) := fun b x e => by
  have h1 := ne_of_none e na
  have h2 := ne_of_none e nd
  rw [upd_ne h2, del_ne h1, k b h1 h2]
  exact e
def ForR (J : It) (g : TG) (tb : TS) (D : Ends) (σ : L2.St) (H : Hp) : Prop := ∃ W : Nat → Nat → L2.St → Hp → Prop, (∃ m, W 0 m σ H) ∧ ∀ i m σ H, W i m σ H →
  (J.stop i H ∧ D.nx σ H) ∨ (J.go i H ∧ ∃ N : L2.St → Hp → Prop, (∀ σ' H', N σ' H' → ∃ m', m' < m ∧ W (i + 1) m' σ' H') ∧ ∀ x H', J.yld i H x H' → g x σ H' fun σ2 H2 => tb { nx := N, rt := D.rt, bk := D.nx, ct := N } σ2 H2)
theorem forGen {J : It} {n : Nat} {g : TG} {tb : TS} {D : Ends} {σ : L2.St} {H : Hp} (Pv : Nat → L2.St → Hp → Prop) (h0 : Pv 0 σ H) (go : ∀ i σ H, i < n → Pv i σ H → J.go i H) (stop : ∀ σ H, Pv n σ H → J.stop n H)
    (turn : ∀ i x σ H H', i < n → Pv i σ H → J.yld i H x H' → g x σ H' fun σ2 H2 => tb { nx := Pv (i + 1), rt := D.rt, bk := D.nx, ct := Pv (i + 1) } σ2 H2) (done : ∀ σ H, Pv n σ H → D.nx σ H) : ForR J g tb D σ H := by
  refine ⟨fun i m σ H => m = n - i ∧ i ≤ n ∧ Pv i σ H, ⟨n, rfl, Nat.zero_le _, h0⟩, ?_⟩
  rintro i m σ H ⟨rfl, hi, p⟩
  by_cases hlt : i < n
  · exact .inr ⟨go i σ H hlt p, Pv (i + 1), fun σ' H' q => ⟨n - (i + 1), by omega, rfl, hlt, q⟩, fun x H' y => turn i x σ H H' hlt p y⟩
  · have e : i = n := by omega
    subst e
    exact .inl ⟨stop σ H p, done σ H p⟩
theorem forEnum {K : PySem.W.Frag} {a : Addr} {xs : List V} {g : TG} {tb : TS} {D : Ends} {σ : L2.St} {H : Hp} (Pv : Nat → L2.St → Hp → Prop) (hq : Sq H a xs) (h0 : Pv 0 σ H) (hl : ∀ i σ H' o, Pv i σ H' → H a = some o → H' a = some o)
    (turn : ∀ i x T σ H, xs[i]? = some x → Pv i σ H → H T = none → g (.ref T) σ (upd H T (.tup [.int (i : Nat), x])) fun σ2 H2 => tb { nx := Pv (i + 1), rt := D.rt, bk := D.nx, ct := Pv (i + 1) } σ2 H2) (done : ∀ σ H, Pv xs.length σ H → D.nx σ H) :
    (SqL K H a xs ∧ ForR (Ite K a) g tb D σ H) ∨ (SqT K H a xs ∧ ForR (IteT K a) g tb D σ H) := by
  rcases hq with hq | hq
  · refine .inl ⟨sqL hq, forGen (n := xs.length) Pv h0 (fun i σ H h p => ⟨xs, xs[i], sqL (hl _ _ _ _ p hq), List.getElem?_eq_getElem h⟩) (fun σ H p => ⟨xs, sqL (hl _ _ _ _ p hq), Nat.le_refl _⟩) (fun i x σ H H' hi p y => ?_) done⟩
    obtain ⟨T, x, rfl, nT, rfl, hx⟩ := y
    exact turn i x T σ H (hx xs (sqL (hl _ _ _ _ p hq))) p nT
  · refine .inr ⟨sqT hq, forGen (n := xs.length) Pv h0 (fun i σ H h p => ⟨xs, xs[i], sqT (hl _ _ _ _ p hq), List.getElem?_eq_getElem h⟩) (fun σ H p => ⟨xs, sqT (hl _ _ _ _ p hq), rfl⟩) (fun i x σ H H' hi p y => ?_) done⟩
    obtain ⟨T, x, rfl, nT, rfl, hx⟩ := y
    exact turn i x T σ H (hx xs (sqT (hl _ _ _ _ p hq))) p nT
theorem paired_get {α β : Type} {F : α → β → Prop} {xs : List α} {ys : List β} (p : Paired F xs ys) : ∀ {i : Nat} {x : α}, xs[i]? = some x → ∃ y, ys[i]? = some y ∧ F x y := by
  induction p with
  | nil => intro i x h; simp at h
  | cons f r ih =>
    intro i x h
    cases i with
    | zero =>
      simp at h
      subst h
      exact ⟨_, rfl, f⟩
    | succ i => exact ih h
theorem paired_imp {α β : Type} {F G : α → β → Prop} (k : ∀ x y, F x y → G x y) : ∀ {xs : List α} {ys : List β}, Paired F xs ys → Paired G xs ys
  | _, _, .nil => .nil
  | _, _, .cons f r => .cons (k _ _ f) (paired_imp k r)
theorem drop_get {α : Type} {xs : List α} {i : Nat} {x : α} (h : xs[i]? = some x) : xs.drop i = x :: xs.drop (i + 1) := by
  obtain ⟨hi, rfl⟩ := List.getElem?_eq_some_iff.mp h
  exact List.drop_eq_getElem_cons hi
theorem take_get {α : Type} {xs : List α} {i : Nat} {x : α} (h : xs[i]? = some x) : xs.take (i + 1) = xs.take i ++ [x] := by
  rw [List.take_succ, h]
  rfl
def nts (ns : List Nat) : List V := ns.map fun (n : Nat) => V.int (n : Int)
theorem nts_len (l : List Nat) : (nts l).length = l.length := List.length_map _
def PairsAt (H : Hp) (ts : List V) (ps : List (Nat × Nat)) : Prop := Paired (fun t (p : Nat × Nat) => ∃ T, t = .ref T ∧ H T = some (.tup [.int (p.1 : Nat), .int (p.2 : Nat)])) ts ps
theorem PairsAt.same {H H' : Hp} {ts : List V} {ps : List (Nat × Nat)} (h : PairsAt H ts ps) (s : Same H H') : PairsAt H' ts ps := paired_imp (fun _ _ ⟨T, e, h⟩ => ⟨T, e, s _ _ h⟩) h
theorem paired_snoc {α β : Type} {F : α → β → Prop} {xs : List α} {ys : List β} {x : α} {y : β} (p : Paired F xs ys) (f : F x y) : Paired F (xs ++ [x]) (ys ++ [y]) := by
  induction p with
  | nil => exact .cons f .nil
  | cons g r ih => exact .cons g ih
def leP (p q : Nat × Nat) : Bool := decide (p.1 < q.1 ∨ (p.1 = q.1 ∧ p.2 ≤ q.2))
def sortP (l : List (Nat × Nat)) : List (Nat × Nat) := l.mergeSort leP
theorem leP_trans (a b c : Nat × Nat) (h1 : leP a b = true) (h2 : leP b c = true) : leP a c = true := by
  unfold leP at *
  rw [decide_eq_true_iff] at *
  omega
theorem leP_total (a b : Nat × Nat) : (leP a b || leP b a) = true := by
  unfold leP
  rw [Bool.or_eq_true, decide_eq_true_iff, decide_eq_true_iff]
  omega
theorem leP_anti {a b : Nat × Nat} (h1 : leP a b = true) (h2 : leP b a = true) : a = b := by
  unfold leP at *
  rw [decide_eq_true_iff] at *
  exact Prod.ext (by omega) (by omega)
theorem sortP_perm (l : List (Nat × Nat)) : (sortP l).Perm l := List.mergeSort_perm l leP
theorem sortP_sorted (l : List (Nat × Nat)) : (sortP l).Pairwise fun a b => leP a b = true := List.pairwise_mergeSort leP_trans leP_total l
theorem sortP_eq {l m : List (Nat × Nat)} (p : m.Perm l) (s : m.Pairwise fun a b => leP a b = true) : m = sortP l :=
  List.Perm.eq_of_pairwise (fun a b _ _ h1 h2 => leP_anti h1 h2) s (sortP_sorted l) (p.trans (sortP_perm l).symm)
def kOf (H : Hp) : V → Int × Int
  | .ref T => match H T with
    | some (.tup [.int i, .int j]) => (i, j)
    | _ => (0, 0)
  | _ => (0, 0)
def kNat (H : Hp) (x : V) : Nat × Nat := ((kOf H x).1.toNat, (kOf H x).2.toNat)
theorem kOf_pair {H : Hp} {T : Addr} {i j : Int} (h : H T = some (.tup [.int i, .int j])) : kOf H (.ref T) = (i, j) := by
  simp only [kOf, h]
theorem pairs_map {H : Hp} {ts : List V} {ps : List (Nat × Nat)} (p : PairsAt H ts ps) : ps = ts.map (kNat H) := by
  induction p with
  | nil => rfl
  | cons f r ih =>
    obtain ⟨T, rfl, h⟩ := f
    rw [List.map_cons, ← ih]
    refine congrArg (· :: _) ?_
    unfold kNat
    rw [kOf_pair h]
    rfl
theorem pairs_mem {H : Hp} {ts : List V} {ps : List (Nat × Nat)} (p : PairsAt H ts ps) : ∀ x ∈ ts, ∃ T, x = .ref T ∧ H T = some (.tup [.int ((kNat H x).1 : Nat), .int ((kNat H x).2 : Nat)]) := by
  induction p with
  | nil => exact fun x h => absurd h (by simp)
  | cons f r ih =>
    intro x hx
    rcases List.mem_cons.mp hx with e | hx
    · obtain ⟨T, e2, h⟩ := f
      subst e2
      subst e
      refine ⟨T, rfl, ?_⟩
      unfold kNat
      rw [kOf_pair h]
      exact h
    · exact ih x hx
theorem paired_self {α β : Type} {F : α → β → Prop} {f : α → β} : ∀ {xs : List α}, (∀ x ∈ xs, F x (f x)) → Paired F xs (xs.map f)
  | [], _ => .nil
  | x :: r, h => .cons (h x List.mem_cons_self) (paired_self fun y hy => h y (List.mem_cons_of_mem _ hy))
theorem sorted_pairs {H : Hp} {xs ys : List V} {ps : List (Nat × Nat)} (p : PairsAt H xs ps) (st : SrtO.Srtd (ltP (kOf H)) ys) (sb : SrtO.Stb (ltP (kOf H)) ys xs) : PairsAt H ys (sortP ps) := by
  have hm := pairs_mem p
  have hy : ∀ y ∈ ys, ∃ T, y = .ref T ∧ H T = some (.tup [.int ((kNat H y).1 : Nat), .int ((kNat H y).2 : Nat)]) := fun y h => hm y (sb.perm.mem_iff.mp h)
  have e : ys.map (kNat H) = sortP ps := by
    refine sortP_eq ?_ ?_
    · rw [pairs_map p]
      exact sb.perm.map _
    · rw [List.pairwise_map]
      refine (List.Pairwise.and_mem.mp st).imp fun h => ?_
      obtain ⟨ha, hb, hlt⟩ := h
      obtain ⟨T, rfl, h1⟩ := hy _ ha
      obtain ⟨U, rfl, h2⟩ := hy _ hb
      have h1 := kOf_pair h1
      have h2 := kOf_pair h2
      unfold ltP SrtO.lexB at hlt
      rw [h1, h2] at hlt
      unfold leP
      rw [decide_eq_true_iff]
      simp at hlt
      split at hlt <;> omega
  rw [← e]
  exact paired_self hy
theorem rIx_sq {K : PySem.W.Frag} {H : Hp} {a : Addr} {xs : List V} {i : Nat} {k : Int} {x : V} {Q : VK} (h : Sq H a xs) (hk : k = (i : Int)) (hx : xs[i]? = some x) (q : Q x H) : rIx K (.ref a) (.int k) H Q := by
  subst hk
  rcases h with h | h
  · exact .inl ⟨a, xs, _, x, rfl, rfl, sqL h, atI_nat hx, q⟩
  · exact .inr (.inl ⟨a, xs, _, x, rfl, rfl, sqT h, atI_nat hx, q⟩)
theorem iteFq {b : Bool} {A B : Prop} (h : b = false) (x : B) : if b = true then A else B := by
  subst h
  exact x
theorem iteTq {b : Bool} {A B : Prop} (h : b = true) (x : A) : if b = true then A else B := by
  subst h
  exact x
theorem forSeq {K : PySem.W.Frag} {a : Addr} {xs : List V} {g : TG} {tb : TS} {D : Ends} {σ : L2.St} {H : Hp} (Pv : Nat → L2.St → Hp → Prop) (hq : Sq H a xs) (h0 : Pv 0 σ H) (hl : ∀ i σ H' o, Pv i σ H' → H a = some o → H' a = some o)
    (turn : ∀ i x σ H, xs[i]? = some x → Pv i σ H → g x σ H fun σ2 H2 => tb { nx := Pv (i + 1), rt := D.rt, bk := D.nx, ct := Pv (i + 1) } σ2 H2) (done : ∀ σ H, Pv xs.length σ H → D.nx σ H) :
    (SqL K H a xs ∧ ForR (Itl K a) g tb D σ H) ∨ (SqT K H a xs ∧ ForR (Itt K a) g tb D σ H) := by
  rcases hq with hq | hq
  · exact .inl ⟨sqL hq, for_list (K := K) (xs := xs) Pv h0 (fun i σ H' _ p => sqL (hl _ _ _ _ p hq)) turn done⟩
  · exact .inr ⟨sqT hq, for_tup (K := K) (xs := xs) Pv h0 (fun i σ H' _ p => sqT (hl _ _ _ _ p hq)) turn done⟩
theorem lenV_sq {K : PySem.W.Frag} {H : Hp} {a : Addr} {xs : List V} {n : Nat} (h : Sq H a xs) (e : xs.length = n) : LenV K (.ref a) H n := h.elim (fun z => .inl ⟨_, sqL z, e.symm⟩) fun z => .inr ⟨_, sqT z, e.symm⟩
theorem none_of_same {H H' : Hp} {l : Addr} (s : Same H H') (n : H' l = none) : H l = none := by
  cases e : H l with
  | none => rfl
  | some o =>
    rw [s _ _ e] at n
    cases n
theorem range_map_get {α : Type} (l : List α) (d : α) : (List.range l.length).map (fun i => l.getD i d) = l := by
  refine List.ext_getElem (by rw [List.length_map, List.length_range]) fun i h1 h2 => ?_
  rw [List.getElem_map, List.getElem_range, List.getD_eq_getElem?_getD, List.getElem?_eq_getElem h2]
  rfl
theorem getD_at {α : Type} {l : List α} {i : Nat} {x d : α} (h : l[i]? = some x) : l.getD i d = x := by
  rw [List.getD_eq_getElem?_getD, h]
  rfl
def TupT (H : Hp) (x : V) (vs : List V) : Prop := ∃ a, x = .ref a ∧ H a = some (.tup vs)
theorem TupT.same {H H' : Hp} {x : V} {vs : List V} (s : Same H H') (h : TupT H x vs) : TupT H' x vs := by
  obtain ⟨a, e, q⟩ := h
  exact ⟨a, e, s _ _ q⟩
def TupsT (H : Hp) (ts : List V) (ls : List (List V)) : Prop := Paired (TupT H) ts ls
theorem TupsT.same {H H' : Hp} {ts : List V} {ls : List (List V)} (s : Same H H') (h : TupsT H ts ls) : TupsT H' ts ls := paired_imp (fun _ _ h => h.same s) h
theorem tups_upd {H : Hp} {D : Addr} {o : HO} {ts us : List V} {l : List (List V)} (eD : H D = some (.lst us)) (p : TupsT H ts l) : TupsT (upd H D o) ts l := paired_imp (fun x c ⟨a, e, h⟩ => ⟨a, e, by rw [upd_ne (fun z => by rw [z, eD] at h; cases h)]; exact h⟩) p
theorem tup_upd {H : Hp} {D : Addr} {o : HO} {x : V} {us c : List V} (eD : H D = some (.lst us)) (p : TupT H x c) : TupT (upd H D o) x c := by
  obtain ⟨a, e, h⟩ := p
  exact ⟨a, e, by rw [upd_ne (fun z => by rw [z, eD] at h; cases h)]; exact h⟩
theorem lcTupK {J : It} {n : Nat} {g : TG} {tt : TT} {te : TE} {vs : List Nat} {σ : L2.St} {H1 : Hp} {D : Addr} {Qd : Hp → Prop} (keep : Nat → Bool) (cs : Nat → List V) (nD : H1 D = none) (hn : n ≤ 4000) (go : ∀ i H, i < n → Same H1 H → J.go i H) (stop : ∀ H, Same H1 H → J.stop n H)
    (turn : ∀ i x H H' (Qk : VK) (Qn : Hp → Prop), i < n → Same H1 H → J.yld i H x H' → (∀ y H4, keep i = true → TupT H4 y (cs i) → Same H H4 → Qk y H4) → (∀ H4, keep i = false → Same H H4 → Qn H4) → g x (wipe σ vs) H' fun σ2 H2 => wipe σ2 vs = wipe σ vs ∧ tt σ2 H2 fun b H3 => if b = true then te σ2 H3 Qk else Qn H3)
    (done : ∀ H ts, Same H1 H → H D = some (.lst ts) → TupsT H ts (((List.range n).filter keep).map cs) → Qd H) :
    ∃ W : Nat → Nat → Hp → Prop, (∃ m, W 0 m (upd H1 D (.lst []))) ∧ ∀ i m H, W i m H →
      (J.stop i H ∧ Qd H) ∨ (J.go i H ∧ ∃ Nx : Hp → Prop, (∀ H', Nx H' → ∃ m', m' < m ∧ W (i + 1) m' H') ∧ ∀ x H', J.yld i H x H' → g x (wipe σ vs) H' fun σ2 H2 => wipe σ2 vs = wipe σ vs ∧ tt σ2 H2 fun b H3 =>
        if b = true then te σ2 H3 fun y H4 => ∃ acc, H4 D = some (.lst acc) ∧ acc.length < sizeLine ∧ Nx (upd H4 D (.lst (acc ++ [y]))) else Nx H3) := by
  refine ⟨fun i m H => m = n - i ∧ i ≤ n ∧ Same H1 H ∧ ∃ ts, H D = some (.lst ts) ∧ TupsT H ts (((List.range i).filter keep).map cs), ⟨n, rfl, Nat.zero_le _, same_upd nD, [], upd_same, .nil⟩, ?_⟩
  rintro i m H ⟨rfl, hi, sm, ts, eD, pt⟩
  by_cases hlt : i < n
  · refine .inr ⟨go i H hlt sm, fun H' => Same H1 H' ∧ ∃ ts, H' D = some (.lst ts) ∧ TupsT H' ts (((List.range (i + 1)).filter keep).map cs), fun H' p => ⟨n - (i + 1), by omega, rfl, hlt, p.1, p.2⟩, fun x H' y => ?_⟩
    refine turn i x H H' _ _ hlt sm y (fun y H4 hk eT s4 => ⟨ts, s4 _ _ eD, ?_, fun b o e => ?_, _, upd_same, ?_⟩) (fun H4 hk s4 => ⟨sm.trans s4, ts, s4 _ _ eD, ?_⟩)
    · have h1 := pt.length
      have h2 := List.length_filter_le keep (List.range i)
      rw [List.length_map] at h1
      rw [List.length_range] at h2
      rw [sizeLine_eq]
      omega
    · rw [upd_ne (ne_of_none e nD)]
      exact s4 _ _ (sm _ _ e)
    · rw [List.range_succ, List.filter_append, List.filter_cons_of_pos hk, List.map_append]
      exact paired_snoc (tups_upd (s4 _ _ eD) (pt.same s4)) (tup_upd (s4 _ _ eD) eT)
    · rw [List.range_succ, List.filter_append, List.filter_cons_of_neg (by rw [hk]; exact Bool.false_ne_true), List.filter_nil, List.append_nil]
      exact pt.same s4
  · have e : i = n := by omega
    subst e
    exact .inl ⟨stop H sm, done H ts sm eD pt⟩
theorem tups_got {H : Hp} {ts : List V} {ls : List (List V)} (p : TupsT H ts ls) {i : Nat} {x : V} (h : ts[i]? = some x) : ∃ vs a, ls[i]? = some vs ∧ x = .ref a ∧ H a = some (.tup vs) := by
  obtain ⟨vs, hv, a, e, ha⟩ := paired_get p h
  exact ⟨vs, a, hv, e, ha⟩
theorem cut_to (xs : List V) (m : Nat) : cutV xs none (some (m : Int)) = xs.take m := by
  unfold cutV
  rw [HT.sIx_nat, show HT.sIx xs.length 0 none = 0 from rfl, Nat.sub_zero, List.drop_zero]
  by_cases h : m ≤ xs.length
  · rw [Nat.min_eq_left h]
  · rw [Nat.min_eq_right (by omega), List.take_of_length_le (Nat.le_refl _), List.take_of_length_le (by omega)]
theorem cut_from (xs : List V) (m : Nat) : cutV xs (some (m : Int)) none = xs.drop m := by
  unfold cutV
  rw [HT.sIx_nat, show HT.sIx xs.length xs.length none = xs.length from rfl]
  by_cases h : m ≤ xs.length
  · rw [Nat.min_eq_left h, List.take_of_length_le (by rw [List.length_drop]; exact Nat.le_refl _)]
  · rw [Nat.min_eq_right (by omega), List.drop_eq_nil_of_le (Nat.le_refl _), List.drop_eq_nil_of_le (show xs.length ≤ m by omega), List.take_nil]
theorem slA {K : PySem.W.Frag} {H : Hp} {a : Addr} {xs : List V} {lo hi : Option Int} {Q : VK} (h : H a = some (.tup xs)) (q : ∀ p H', Same H H' → H' p = some (.tup (cutV xs lo hi)) → Q (.ref p) H') : rSlA K (.ref a) lo hi H Q := by
  refine ⟨a, xs, rfl, sqT h, fun z => q a H (Same.refl _) ?_, fun _ p np => q p _ (same_upd np) upd_same⟩
  rw [h]
  unfold cutV
  rw [z.1, z.2, List.drop_zero, Nat.sub_zero, List.take_of_length_le (Nat.le_refl _)]
theorem catA {K : PySem.W.Frag} {H : Hp} {a b : Addr} {xs ys : List V} {Q : VK} (ha : H a = some (.tup xs)) (hb : H b = some (.tup ys)) (hl : xs.length + ys.length ≤ 1000) (q : ∀ p H', Same H H' → H' p = some (.tup (xs ++ ys)) → Q (.ref p) H') : rCatA K (.ref a) (.ref b) H Q := by
  refine ⟨a, b, xs, ys, rfl, rfl, sqT ha, sqT hb, by rw [sizeLine_eq]; omega, fun z => q b H (Same.refl _) ?_, fun _ z => q a H (Same.refl _) ?_, fun _ _ p np => q p _ (same_upd np) upd_same⟩
  · rw [hb, z, List.nil_append]
  · rw [ha, z, List.append_nil]
theorem paired_take {α β : Type} {F : α → β → Prop} {xs : List α} {ys : List β} (p : Paired F xs ys) : ∀ k, Paired F (xs.take k) (ys.take k) ∧ Paired F (xs.drop k) (ys.drop k) := by
  induction p with
  | nil => intro k; rw [List.take_nil, List.take_nil, List.drop_nil, List.drop_nil]; exact ⟨.nil, .nil⟩
  | cons f r ih =>
    intro k
    cases k with
    | zero => exact ⟨.nil, .cons f r⟩
    | succ k => exact ⟨.cons f (ih k).1, (ih k).2⟩
theorem paired_app {α β : Type} {F : α → β → Prop} {xs xs' : List α} {ys ys' : List β} (p : Paired F xs ys) (q : Paired F xs' ys') : Paired F (xs ++ xs') (ys ++ ys') := by
  induction p with
  | nil => exact q
  | cons f _ ih => exact .cons f ih
theorem lcPred {J : It} {n : Nat} {g : TG} {tt : TT} {te : TE} {vs : List Nat} {σ : L2.St} {H1 : Hp} {D : Addr} {Qd : Hp → Prop} (keep : Nat → Bool) (T : Nat → Hp → V → Prop) (hst : ∀ i H H' x, Same H H' → T i H x → T i H' x) (hup : ∀ i H x us ys, H D = some (.lst us) → T i H x → T i (upd H D (.lst ys)) x)
    (nD : H1 D = none) (hn : n ≤ 4000) (go : ∀ i H, i < n → Same H1 H → J.go i H) (stop : ∀ H, Same H1 H → J.stop n H)
    (turn : ∀ i x H H' (Qk : VK) (Qn : Hp → Prop), i < n → Same H1 H → (∃ us, H D = some (.lst us)) → J.yld i H x H' → (∀ y H4, keep i = true → T i H4 y → Same H H4 → Qk y H4) → (∀ H4, keep i = false → Same H H4 → Qn H4) → g x (wipe σ vs) H' fun σ2 H2 => wipe σ2 vs = wipe σ vs ∧ tt σ2 H2 fun b H3 => if b = true then te σ2 H3 Qk else Qn H3)
    (done : ∀ H ts, Same H1 H → H D = some (.lst ts) → Paired (fun x i => T i H x) ts ((List.range n).filter keep) → Qd H) :
    ∃ W : Nat → Nat → Hp → Prop, (∃ m, W 0 m (upd H1 D (.lst []))) ∧ ∀ i m H, W i m H →
      (J.stop i H ∧ Qd H) ∨ (J.go i H ∧ ∃ Nx : Hp → Prop, (∀ H', Nx H' → ∃ m', m' < m ∧ W (i + 1) m' H') ∧ ∀ x H', J.yld i H x H' → g x (wipe σ vs) H' fun σ2 H2 => wipe σ2 vs = wipe σ vs ∧ tt σ2 H2 fun b H3 =>
        if b = true then te σ2 H3 fun y H4 => ∃ acc, H4 D = some (.lst acc) ∧ acc.length < sizeLine ∧ Nx (upd H4 D (.lst (acc ++ [y]))) else Nx H3) := by
  refine ⟨fun i m H => m = n - i ∧ i ≤ n ∧ Same H1 H ∧ ∃ ts, H D = some (.lst ts) ∧ Paired (fun x i => T i H x) ts ((List.range i).filter keep), ⟨n, rfl, Nat.zero_le _, same_upd nD, [], upd_same, .nil⟩, ?_⟩
  rintro i m H ⟨rfl, hi, sm, ts, eD, pt⟩
  by_cases hlt : i < n
  · refine .inr ⟨go i H hlt sm, fun H' => Same H1 H' ∧ ∃ ts, H' D = some (.lst ts) ∧ Paired (fun x i => T i H' x) ts ((List.range (i + 1)).filter keep), fun H' p => ⟨n - (i + 1), by omega, rfl, hlt, p.1, p.2⟩, fun x H' y => ?_⟩
    refine turn i x H H' _ _ hlt sm ⟨ts, eD⟩ y (fun y H4 hk eT s4 => ⟨ts, s4 _ _ eD, ?_, fun b o e => ?_, _, upd_same, ?_⟩) (fun H4 hk s4 => ⟨sm.trans s4, ts, s4 _ _ eD, ?_⟩)
    · have h1 := pt.length
      have h2 := List.length_filter_le keep (List.range i)
      rw [List.length_range] at h2
      rw [sizeLine_eq]
      omega
    · rw [upd_ne (ne_of_none e nD)]
      exact s4 _ _ (sm _ _ e)
    · rw [List.range_succ, List.filter_append, List.filter_cons_of_pos hk]
      exact paired_snoc (paired_imp (fun x i h => hup i _ x _ _ (s4 _ _ eD) (hst i _ _ x s4 h)) pt) (hup i _ y _ _ (s4 _ _ eD) eT)
    · rw [List.range_succ, List.filter_append, List.filter_cons_of_neg (by rw [hk]; exact Bool.false_ne_true), List.filter_nil, List.append_nil]
      exact paired_imp (fun x i h => hst i _ _ x s4 h) pt
  · have e : i = n := by omega
    subst e
    exact .inl ⟨stop H sm, done H ts sm eD pt⟩
theorem paired_map {α β γ : Type} {F : α → γ → Prop} {g : β → γ} {xs : List α} {ys : List β} (p : Paired (fun x y => F x (g y)) xs ys) : Paired F xs (ys.map g) := by
  induction p with
  | nil => exact .nil
  | cons f _ ih => exact .cons f ih
theorem nts_snoc (l : List Nat) {x : Int} (h : 0 ≤ x) : nts l ++ [.int x] = nts (l ++ [x.toNat]) := by
  unfold nts
  rw [List.map_append, List.map_singleton, Int.toNat_of_nonneg h]
theorem fmod_nn {a b : Int} (ha : 0 ≤ a) (hb : 0 < b) : 0 ≤ a.fmod b ∧ a.fmod b < b := ⟨Int.fmod_nonneg_of_pos a hb, Int.fmod_lt_of_pos a hb⟩
theorem fdiv_nn {a b : Int} (ha : 0 ≤ a) (hb : 0 < b) : 0 ≤ a.fdiv b ∧ a.fdiv b ≤ a := by
  rw [Int.fdiv_eq_ediv_of_nonneg a (by omega)]
  exact ⟨Int.ediv_nonneg ha (by omega), Int.ediv_le_self b ha⟩
def NumsAt (H : Hp) (a : Addr) : Prop := ∃ l : List Nat, H a = some (.lst (nts l)) ∧ l.length ≤ 4000
def SameB (a : Addr) (H H' : Hp) : Prop := ∀ b o, b ≠ a → H b = some o → H' b = some o
theorem SameB.trans {a : Addr} {H1 H2 H3 : Hp} (h : SameB a H1 H2) (k : SameB a H2 H3) : SameB a H1 H3 := fun b o n e => k b o n (h b o n e)
theorem SameB.refl {a : Addr} {H : Hp} : SameB a H H := fun _ _ _ e => e
theorem sameB_of {a : Addr} {H1 H2 : Hp} (h : Same H1 H2) : SameB a H1 H2 := fun b o _ e => h b o e
theorem NumsAt.same {H H' : Hp} {a : Addr} (h : NumsAt H a) (s : Same H H') : NumsAt H' a := by
  obtain ⟨l, e, n⟩ := h
  exact ⟨l, s _ _ e, n⟩
theorem nums_ne {H : Hp} {a l : Addr} (n : NumsAt H a) (h : H l = none) : l ≠ a := fun z => by
  obtain ⟨x, e, _⟩ := n
  rw [z, e] at h
  cases h
theorem none_of_b {a l : Addr} {H H' : Hp} (s : SameB a H H') (n : NumsAt H' a) (h : H' l = none) : H l = none := by
  cases e : H l with
  | none => rfl
  | some o =>
    rw [s _ _ (nums_ne n h) e] at h
    cases h
theorem nums_upd {H : Hp} {a F : Addr} {o : HO} (n : NumsAt H a) (h : F ≠ a) : NumsAt (upd H F o) a := by
  obtain ⟨l, e, n⟩ := n
  exact ⟨l, by rw [upd_ne h.symm]; exact e, n⟩
theorem pick {K : PySem.W.Frag} {H : Hp} {L : Addr} {ms : List Nat} {r : Nat} {Q : VK} (e : H L = some (.lst (nts ms))) (hr : r < ms.length) (q : ∀ v, v ∈ ms → Q (.int (v : Nat)) H) : rIxL K (.ref L) (.int (r : Nat)) H Q := by
  refine ⟨L, _, r, .int (ms[r] : Nat), rfl, rfl, sqL e, atI_nat ?_, q _ (List.getElem_mem hr)⟩
  unfold nts
  rw [List.getElem?_map, List.getElem?_eq_getElem hr]
  rfl
def rTupOf (K : PySem.W.Frag) : List V → Hp → VK → Prop := fun xs H Q => ∃ p ys, xs = [.ref p] ∧ ((SqL K H p ys ∧ ∀ l, H l = none → Q (.ref l) (upd H l (.tup ys))) ∨ (SqT K H p ys ∧ Q (.ref p) H))
def rListOf (K : PySem.W.Frag) : List V → Hp → VK → Prop := fun xs H Q => ∃ p ys, xs = [.ref p] ∧ (SqL K H p ys ∨ SqT K H p ys) ∧ ∀ l, H l = none → Q (.ref l) (upd H l (.lst ys))
theorem tupOf {K : PySem.W.Frag} {H : Hp} {a : Addr} {xs : List V} {Q : VK} (h : Sq H a xs) (q : ∀ p H', Same H H' → H' p = some (.tup xs) → Q (.ref p) H') : rTupOf K [.ref a] H Q := by
  rcases h with h | h
  · exact ⟨a, xs, rfl, .inl ⟨sqL h, fun l nl => q l _ (same_upd nl) upd_same⟩⟩
  · exact ⟨a, xs, rfl, .inr ⟨sqT h, q a H (Same.refl _) h⟩⟩
theorem listOf {K : PySem.W.Frag} {H : Hp} {a : Addr} {xs : List V} {Q : VK} (h : Sq H a xs) (q : ∀ p H', Same H H' → H p = none → H' p = some (.lst xs) → Q (.ref p) H') : rListOf K [.ref a] H Q :=
  ⟨a, xs, rfl, h.elim (fun z => .inl (sqL z)) (fun z => .inr (sqT z)), fun l nl => q l _ (same_upd nl) nl upd_same⟩
/-- as LcR, what follows told of the new list's address: it is found by unification -/
def LcD (J : It) (g : TG) (tt : TT) (te : TE) (vs : List Nat) (σ : L2.St) (H1 : Hp) (Q : Addr → Hp → Prop) : Prop := ∀ D, H1 D = none → ∃ W : Nat → Nat → Hp → Prop, (∃ m, W 0 m (upd H1 D (.lst []))) ∧ ∀ i m H, W i m H →
  (J.stop i H ∧ Q D H) ∨ (J.go i H ∧ ∃ Nx : Hp → Prop, (∀ H', Nx H' → ∃ m', m' < m ∧ W (i + 1) m' H') ∧ ∀ x H', J.yld i H x H' → g x (wipe σ vs) H' fun σ2 H2 => wipe σ2 vs = wipe σ vs ∧ tt σ2 H2 fun b H3 =>
    if b = true then te σ2 H3 fun y H4 => ∃ acc, H4 D = some (.lst acc) ∧ acc.length < sizeLine ∧ Nx (upd H4 D (.lst (acc ++ [y]))) else Nx H3)
/-- [e for x in xs], xs a list; what is made is told by a predicate -/
theorem lcLst {K : PySem.W.Frag} {a : Addr} {xs : List V} {g : TG} {te : TE} {vs : List Nat} {σ : L2.St} {H1 : Hp} {Q : Addr → Hp → Prop} (T : Nat → Hp → V → Prop) (hst : ∀ i H H' x, Same H H' → T i H x → T i H' x)
    (hup : ∀ D i H x us ys, H D = some (.lst us) → H1 D = none → T i H x → T i (upd H D (.lst ys)) x) (hq : H1 a = some (.lst xs)) (hn : xs.length ≤ 4000)
    (turn : ∀ (D : Addr) (i : Nat) (x : V) (H : Hp) (Qk : VK) (Qn : Hp → Prop), xs[i]? = some x → Same H1 H → H1 D = none → (∃ us, H D = some (.lst us)) → (∀ y H4, T i H4 y → Same H H4 → Qk y H4) → g x (wipe σ vs) H fun σ2 H2 => wipe σ2 vs = wipe σ vs ∧ tYes σ2 H2 fun b H3 => if b = true then te σ2 H3 Qk else Qn H3)
    (done : ∀ D H ts, H1 D = none → Same H1 H → H D = some (.lst ts) → Paired (fun x i => T i H x) ts (List.range xs.length) → Q D H) : LcD (Itl K a) g tYes te vs σ H1 Q := by
  have ef : ∀ n : Nat, (List.range n).filter (fun _ => true) = List.range n := fun n => List.filter_eq_self.mpr (fun _ _ => rfl)
  refine fun D nD => lcPred (n := xs.length) (tt := tYes) (fun _ => true) T hst (fun i H x us ys e h => hup D i H x us ys e nD h) nD hn (fun i H h s => ⟨xs, xs[i], sqL (s _ _ hq), List.getElem?_eq_getElem h⟩) (fun H s => ⟨xs, sqL (s _ _ hq), Nat.le_refl _⟩)
      (fun i x H H' Qk Qn h s eD y hk _ => ?_) (fun H ts s e p => done D H ts nD s e (by rw [ef] at p; exact p))
  obtain ⟨rfl, y⟩ := y
  exact turn D i x _ Qk Qn (y xs (sqL (s _ _ hq))) s nD eD fun y H4 h4 s4 => hk y H4 rfl h4 s4
/-- .. a tuple -/
theorem lcTup {K : PySem.W.Frag} {a : Addr} {xs : List V} {g : TG} {te : TE} {vs : List Nat} {σ : L2.St} {H1 : Hp} {Q : Addr → Hp → Prop} (T : Nat → Hp → V → Prop) (hst : ∀ i H H' x, Same H H' → T i H x → T i H' x)
    (hup : ∀ D i H x us ys, H D = some (.lst us) → H1 D = none → T i H x → T i (upd H D (.lst ys)) x) (hq : H1 a = some (.tup xs)) (hn : xs.length ≤ 4000)
    (turn : ∀ (D : Addr) (i : Nat) (x : V) (H : Hp) (Qk : VK) (Qn : Hp → Prop), xs[i]? = some x → Same H1 H → H1 D = none → (∃ us, H D = some (.lst us)) → (∀ y H4, T i H4 y → Same H H4 → Qk y H4) → g x (wipe σ vs) H fun σ2 H2 => wipe σ2 vs = wipe σ vs ∧ tYes σ2 H2 fun b H3 => if b = true then te σ2 H3 Qk else Qn H3)
    (done : ∀ D H ts, H1 D = none → Same H1 H → H D = some (.lst ts) → Paired (fun x i => T i H x) ts (List.range xs.length) → Q D H) : LcD (Itt K a) g tYes te vs σ H1 Q := by
  have ef : ∀ n : Nat, (List.range n).filter (fun _ => true) = List.range n := fun n => List.filter_eq_self.mpr (fun _ _ => rfl)
  refine fun D nD => lcPred (n := xs.length) (tt := tYes) (fun _ => true) T hst (fun i H x us ys e h => hup D i H x us ys e nD h) nD hn (fun i H h s => ⟨xs, xs[i], sqT (s _ _ hq), List.getElem?_eq_getElem h⟩) (fun H s => ⟨xs, sqT (s _ _ hq), Nat.le_refl _⟩)
      (fun i x H H' Qk Qn h s eD y hk _ => ?_) (fun H ts s e p => done D H ts nD s e (by rw [ef] at p; exact p))
  obtain ⟨rfl, y⟩ := y
  exact turn D i x _ Qk Qn (y xs (sqT (s _ _ hq))) s nD eD fun y H4 h4 s4 => hk y H4 rfl h4 s4
/-- .. a list or a tuple -/
theorem lcSeqP {K : PySem.W.Frag} {a : Addr} {xs : List V} {g : TG} {te : TE} {vs : List Nat} {σ : L2.St} {H1 : Hp} {Q : Addr → Hp → Prop} (T : Nat → Hp → V → Prop) (hst : ∀ i H H' x, Same H H' → T i H x → T i H' x)
    (hup : ∀ D i H x us ys, H D = some (.lst us) → H1 D = none → T i H x → T i (upd H D (.lst ys)) x) (hq : Sq H1 a xs) (hn : xs.length ≤ 4000)
    (turn : ∀ (D : Addr) (i : Nat) (x : V) (H : Hp) (Qk : VK) (Qn : Hp → Prop), xs[i]? = some x → Same H1 H → H1 D = none → (∃ us, H D = some (.lst us)) → (∀ y H4, T i H4 y → Same H H4 → Qk y H4) → g x (wipe σ vs) H fun σ2 H2 => wipe σ2 vs = wipe σ vs ∧ tYes σ2 H2 fun b H3 => if b = true then te σ2 H3 Qk else Qn H3)
    (done : ∀ D H ts, H1 D = none → Same H1 H → H D = some (.lst ts) → Paired (fun x i => T i H x) ts (List.range xs.length) → Q D H) :
    (SqL K H1 a xs ∧ LcD (Itl K a) g tYes te vs σ H1 Q) ∨ (SqT K H1 a xs ∧ LcD (Itt K a) g tYes te vs σ H1 Q) :=
  hq.elim (fun hq => .inl ⟨sqL hq, lcLst T hst hup hq hn turn done⟩) fun hq => .inr ⟨sqT hq, lcTup T hst hup hq hn turn done⟩
/-- [e for i in range(n)]; what is made is told by a predicate -/
theorem lcRngP {n : Nat} {g : TG} {te : TE} {vs : List Nat} {σ : L2.St} {H1 : Hp} {Q : Addr → Hp → Prop} (T : Nat → Hp → V → Prop) (hst : ∀ i H H' x, Same H H' → T i H x → T i H' x)
    (hup : ∀ D i H x us ys, H D = some (.lst us) → H1 D = none → T i H x → T i (upd H D (.lst ys)) x) (hn : n ≤ 4000)
    (turn : ∀ (D : Addr) (i : Nat) (H : Hp) (Qk : VK) (Qn : Hp → Prop), i < n → Same H1 H → H1 D = none → (∃ us, H D = some (.lst us)) → (∀ y H4, T i H4 y → Same H H4 → Qk y H4) → g (.int (i : Nat)) (wipe σ vs) H fun σ2 H2 => wipe σ2 vs = wipe σ vs ∧ tYes σ2 H2 fun b H3 => if b = true then te σ2 H3 Qk else Qn H3)
    (done : ∀ D H ts, H1 D = none → Same H1 H → H D = some (.lst ts) → Paired (fun x i => T i H x) ts (List.range n) → Q D H) : LcD (Itr 0 n) g tYes te vs σ H1 Q := by
  have ef : ∀ n : Nat, (List.range n).filter (fun _ => true) = List.range n := fun n => List.filter_eq_self.mpr (fun _ _ => rfl)
  refine fun D nD => lcPred (n := n) (tt := tYes) (fun _ => true) T hst (fun i H x us ys e h => hup D i H x us ys e nD h) nD hn (fun i H h s => h) (fun H s => Nat.le_refl _)
      (fun i x H H' Qk Qn h s eD y hk _ => ?_) (fun H ts s e p => done D H ts nD s e (by rw [ef] at p; exact p))
  obtain ⟨rfl, rfl⟩ := y
  rw [Int.zero_add]
  exact turn D i _ Qk Qn h s nD eD fun y H4 h4 s4 => hk y H4 rfl h4 s4
theorem paired_eq {α β : Type} {g : β → α} {xs : List α} {ys : List β} (p : Paired (fun x y => x = g y) xs ys) : xs = ys.map g := by
  induction p with
  | nil => rfl
  | cons f _ ih => rw [List.map_cons, f, ih]
theorem map_range_get {α : Type} {f : Nat → α} {xs : List α} (h : ∀ i x, xs[i]? = some x → f i = x) : (List.range xs.length).map f = xs := by
  refine List.ext_getElem? fun i => ?_
  rw [List.getElem?_map]
  by_cases hi : i < xs.length
  · rw [List.getElem?_eq_getElem (by rw [List.length_range]; exact hi), List.getElem_range, List.getElem?_eq_getElem hi]
    exact congrArg some (h i _ (List.getElem?_eq_getElem hi))
  · rw [List.getElem?_eq_none (by rw [List.length_range]; omega), List.getElem?_eq_none (by omega)]
    rfl
theorem atI_end (xs : List V) (v : V) : atI (xs ++ [v]) (-1) = some v := by
  unfold atI ixN
  rw [if_neg (by omega), if_pos (by rw [List.length_append, List.length_singleton]; omega)]
  show (xs ++ [v])[((-1 : Int) + ((xs ++ [v]).length : Int)).toNat]? = some v
  rw [List.length_append, List.length_singleton, show ((-1 : Int) + ((xs.length + 1 : Nat) : Int)).toNat = xs.length by omega, List.getElem?_append_right (Nat.le_refl _), Nat.sub_self]
  rfl
/-- [e for i, x in enumerate(xs)], xs a tuple -/
theorem lcEnT {K : PySem.W.Frag} {a : Addr} {xs : List V} {g : TG} {te : TE} {vs : List Nat} {σ : L2.St} {H1 : Hp} {Q : Addr → Hp → Prop} (T : Nat → Hp → V → Prop) (hst : ∀ i H H' x, Same H H' → T i H x → T i H' x)
    (hup : ∀ D i H x us ys, H D = some (.lst us) → H1 D = none → T i H x → T i (upd H D (.lst ys)) x) (hq : H1 a = some (.tup xs)) (hn : xs.length ≤ 4000)
    (turn : ∀ (D : Addr) (i : Nat) (x : V) (U : Addr) (H : Hp) (Qk : VK) (Qn : Hp → Prop), xs[i]? = some x → Same H1 H → H1 D = none → (∃ us, H D = some (.lst us)) → H U = none → (∀ y H4, T i H4 y → Same H H4 → Qk y H4) → g (.ref U) (wipe σ vs) (upd H U (.tup [.int (i : Nat), x])) fun σ2 H2 => wipe σ2 vs = wipe σ vs ∧ tYes σ2 H2 fun b H3 => if b = true then te σ2 H3 Qk else Qn H3)
    (done : ∀ D H ts, H1 D = none → Same H1 H → H D = some (.lst ts) → Paired (fun x i => T i H x) ts (List.range xs.length) → Q D H) : LcD (IteT K a) g tYes te vs σ H1 Q := by
  have ef : ∀ n : Nat, (List.range n).filter (fun _ => true) = List.range n := fun n => List.filter_eq_self.mpr (fun _ _ => rfl)
  refine fun D nD => lcPred (n := xs.length) (tt := tYes) (fun _ => true) T hst (fun i H x us ys e h => hup D i H x us ys e nD h) nD hn (fun i H h s => ⟨xs, xs[i], sqT (s _ _ hq), List.getElem?_eq_getElem h⟩) (fun H s => ⟨xs, sqT (s _ _ hq), rfl⟩)
      (fun i x H H' Qk Qn h s eD y hk _ => ?_) (fun H ts s e p => done D H ts nD s e (by rw [ef] at p; exact p))
  obtain ⟨U, x, rfl, nU, rfl, hx⟩ := y
  exact turn D i x U _ Qk Qn (hx xs (sqT (s _ _ hq))) s nD eD nU fun y H4 h4 s4 => hk y H4 rfl h4 s4
/-- for x in xs, xs a tuple -/
theorem forTt {K : PySem.W.Frag} {a : Addr} {xs : List V} {g : TG} {tb : TS} {D : Ends} {σ : L2.St} {H : Hp} (Pv : Nat → L2.St → Hp → Prop) (hq : H a = some (.tup xs)) (h0 : Pv 0 σ H) (hl : ∀ i σ H' o, Pv i σ H' → H a = some o → H' a = some o)
    (turn : ∀ i x σ H, xs[i]? = some x → Pv i σ H → g x σ H fun σ2 H2 => tb { nx := Pv (i + 1), rt := D.rt, bk := D.nx, ct := Pv (i + 1) } σ2 H2) (done : ∀ σ H, Pv xs.length σ H → D.nx σ H) : ForR (Itt K a) g tb D σ H :=
  forGen (n := xs.length) Pv h0 (fun i σ H h p => ⟨xs, xs[i], sqT (hl _ _ _ _ p hq), List.getElem?_eq_getElem h⟩) (fun σ H p => ⟨xs, sqT (hl _ _ _ _ p hq), Nat.le_refl _⟩) (fun i x σ H H' hi p y => by
    obtain ⟨rfl, y⟩ := y
    exact turn i x σ _ (y xs (sqT (hl _ _ _ _ p hq))) p) done
/-- for x in xs, xs a list that the body does not change -/
theorem forLs {K : PySem.W.Frag} {a : Addr} {xs : List V} {g : TG} {tb : TS} {D : Ends} {σ : L2.St} {H : Hp} (Pv : Nat → L2.St → Hp → Prop) (hq : H a = some (.lst xs)) (h0 : Pv 0 σ H) (hl : ∀ i σ H', Pv i σ H' → H' a = some (.lst xs))
    (turn : ∀ i x σ H, xs[i]? = some x → Pv i σ H → g x σ H fun σ2 H2 => tb { nx := Pv (i + 1), rt := D.rt, bk := D.nx, ct := Pv (i + 1) } σ2 H2) (done : ∀ σ H, Pv xs.length σ H → D.nx σ H) : ForR (Itl K a) g tb D σ H :=
  forGen (n := xs.length) Pv h0 (fun i σ H h p => ⟨xs, xs[i], sqL (hl _ _ _ p), List.getElem?_eq_getElem h⟩) (fun σ H p => ⟨xs, sqL (hl _ _ _ p), Nat.le_refl _⟩) (fun i x σ H H' hi p y => by
    obtain ⟨rfl, y⟩ := y
    exact turn i x σ _ (y xs (sqL (hl _ _ _ p))) p) done
/-- for i in range(n) -/
theorem forRg {n : Nat} {g : TG} {tb : TS} {D : Ends} {σ : L2.St} {H : Hp} (Pv : Nat → L2.St → Hp → Prop) (h0 : Pv 0 σ H)
    (turn : ∀ i σ H, i < n → Pv i σ H → g (.int (i : Nat)) σ H fun σ2 H2 => tb { nx := Pv (i + 1), rt := D.rt, bk := D.nx, ct := Pv (i + 1) } σ2 H2) (done : ∀ σ H, Pv n σ H → D.nx σ H) : ForR (Itr 0 n) g tb D σ H :=
  forGen (n := n) Pv h0 (fun i σ H h p => h) (fun σ H p => Nat.le_refl _) (fun i x σ H H' hi p y => by
    obtain ⟨rfl, rfl⟩ := y
    rw [Int.zero_add]
    exact turn i σ _ hi p) done
theorem atI_lastN {l : List Nat} {y : Nat} (h : l.getLast? = some y) : atI (nts l) (-1) = some (.int (y : Nat)) := by
  obtain ⟨pre, rfl⟩ : ∃ pre, l = pre ++ [y] := List.getLast?_eq_some_iff.mp h
  have e : nts (pre ++ [y]) = nts pre ++ [V.int (y : Nat)] := by unfold nts; rw [List.map_append]; rfl
  rw [e]
  exact atI_end _ _
/-! ### whole numbers from 0 on -/
def rAddN : R2 := fun x y H Q => ∃ m n : Nat, x = .int (m : Nat) ∧ y = .int (n : Nat) ∧ Q (.int ((m + n : Nat) : Int)) H
def rSubN : R2 := fun x y H Q => ∃ m n : Nat, x = .int (m : Nat) ∧ y = .int (n : Nat) ∧ n ≤ m ∧ Q (.int ((m - n : Nat) : Int)) H
def rMultN : R2 := fun x y H Q => ∃ m n : Nat, x = .int (m : Nat) ∧ y = .int (n : Nat) ∧ m < 1000000000000000000 ∧ Q (.int ((m * n : Nat) : Int)) H
def rFloorDivN : R2 := fun x y H Q => ∃ m n : Nat, x = .int (m : Nat) ∧ y = .int (n : Nat) ∧ 1 ≤ n ∧ n < 1073741824 ∧ Q (.int ((m / n : Nat) : Int)) H
def rModN : R2 := fun x y H Q => ∃ m n : Nat, x = .int (m : Nat) ∧ y = .int (n : Nat) ∧ 1 ≤ n ∧ Q (.int ((m % n : Nat) : Int)) H
theorem fmod_nat (m n : Nat) : Int.fmod (m : Int) (n : Int) = ((m % n : Nat) : Int) := by
  rw [Int.fmod_eq_emod_of_nonneg _ (by omega)]
  rfl
theorem fdiv_nat (m n : Nat) : Int.fdiv (m : Int) (n : Int) = ((m / n : Nat) : Int) := by
  rw [Int.fdiv_eq_ediv_of_nonneg _ (by omega)]
  rfl
section
variable {X : Cx}
theorem op_AddN : OpR X (binaryOp .Add) rAddN := by
  intro pins s σ H x y v u Q I rx ry h
  obtain ⟨m, n, hx, hy, q⟩ := h
  exact op_add pins s σ H x y v u Q I rx ry ⟨m, n, hx, hy, by rw [Int.natCast_add] at q; exact q⟩
theorem op_SubN : OpR X (binaryOp .Sub) rSubN := by
  intro pins s σ H x y v u Q I rx ry h
  obtain ⟨m, n, hx, hy, hl, q⟩ := h
  exact op_sub pins s σ H x y v u Q I rx ry ⟨m, n, hx, hy, by rw [Int.natCast_sub hl] at q; exact q⟩
theorem op_MultN : OpR X (binaryOp .Mult) rMultN := by
  intro pins s σ H x y v u Q I rx ry h
  obtain ⟨m, n, hx, hy, hl, q⟩ := h
  exact op_mul pins s σ H x y v u Q I rx ry ⟨m, n, hx, hy, .inl ⟨by omega, by omega⟩, by rw [Int.natCast_mul] at q; exact q⟩
theorem op_FloorDivN : OpR X (binaryOp .FloorDiv) rFloorDivN := by
  intro pins s σ H x y v u Q I rx ry h
  obtain ⟨m, n, hx, hy, h1, h2, q⟩ := h
  exact op_fdivN pins s σ H x y v u Q I rx ry ⟨m, n, hx, hy, ⟨by omega, by omega⟩, by rw [← fdiv_nat] at q; exact q⟩
theorem op_ModN : OpR X (binaryOp .Mod) rModN := by
  intro pins s σ H x y v u Q I rx ry h
  obtain ⟨m, n, hx, hy, h1, q⟩ := h
  exact op_modN pins s σ H x y v u Q I rx ry ⟨m, n, hx, hy, (show ((n : Nat) : Int) ≠ 0 by omega), by rw [← fmod_nat] at q; exact q⟩
end
def rMax2N : List V → Hp → VK → Prop := fun xs H Q => ∃ m n : Nat, xs = [.int (m : Nat), .int (n : Nat)] ∧ Q (.int ((max m n : Nat) : Int)) H
def rMin2N : List V → Hp → VK → Prop := fun xs H Q => ∃ m n : Nat, xs = [.int (m : Nat), .int (n : Nat)] ∧ Q (.int ((min m n : Nat) : Int)) H
section
variable {X : Cx}
theorem call_max2N (hc : X.calm = true) : CallR X (.builtin "max") rMax2N := by
  intro pins s σ H vs us Q I r h
  obtain ⟨m, n, hx, q⟩ := h
  refine call_max2 hc pins s σ H vs us Q I r ⟨m, n, hx, ?_⟩
  have e : (if ((n : Nat) : Int) > ((m : Nat) : Int) then ((n : Nat) : Int) else ((m : Nat) : Int)) = ((max m n : Nat) : Int) := by split <;> omega
  rw [e]
  exact q
theorem call_min2N (hc : X.calm = true) : CallR X (.builtin "min") rMin2N := by
  intro pins s σ H vs us Q I r h
  obtain ⟨m, n, hx, q⟩ := h
  refine call_min2 hc pins s σ H vs us Q I r ⟨m, n, hx, ?_⟩
  have e : (if ((n : Nat) : Int) < ((m : Nat) : Int) then ((n : Nat) : Int) else ((m : Nat) : Int)) = ((min m n : Nat) : Int) := by split <;> omega
  rw [e]
  exact q
end
theorem tupsB {a : Addr} {H H' : Hp} {ts : List V} {ls : List (List V)} (n : NumsAt H a) (s : SameB a H H') (p : TupsT H ts ls) : TupsT H' ts ls := by
  obtain ⟨ns, e, _⟩ := n
  exact paired_imp (fun x c ⟨b, e1, h⟩ => ⟨b, e1, s _ _ (fun z => by rw [z, e] at h; cases h) h⟩) p
theorem pickI {K : PySem.W.Frag} {H : Hp} {L : Addr} {ms : List Int} {r : Nat} {Q : VK} (e : H L = some (.lst (ms.map V.int))) (hr : r < ms.length) (q : ∀ v, v ∈ ms → Q (.int v) H) : rIxL K (.ref L) (.int (r : Nat)) H Q := by
  refine ⟨L, _, r, .int ms[r], rfl, rfl, sqL e, atI_nat ?_, q _ (List.getElem_mem hr)⟩
  rw [List.getElem?_map, List.getElem?_eq_getElem hr]
  rfl
theorem paired_set {α β : Type} {F : α → β → Prop} {xs : List α} {ys : List β} (p : Paired F xs ys) : ∀ (i : Nat) {x : α} {y : β}, F x y → Paired F (xs.set i x) (ys.set i y) := by
  induction p with
  | nil => intro i x y h; exact .nil
  | cons f r ih =>
    intro i x y h
    cases i with
    | zero => exact .cons h r
    | succ i => exact .cons f (ih i h)
theorem ixN_nat {n i : Nat} (h : i < n) : ixN n ((i : Nat) : Int) = some i := by
  unfold ixN
  rw [if_pos (by omega), if_pos (by omega)]
  rfl
/-- for i in range(lo, lo + n) -/
theorem forRgL {lo n : Nat} {g : TG} {tb : TS} {D : Ends} {σ : L2.St} {H : Hp} (Pv : Nat → L2.St → Hp → Prop) (h0 : Pv 0 σ H)
    (turn : ∀ i σ H, i < n → Pv i σ H → g (.int ((lo + i : Nat) : Int)) σ H fun σ2 H2 => tb { nx := Pv (i + 1), rt := D.rt, bk := D.nx, ct := Pv (i + 1) } σ2 H2) (done : ∀ σ H, Pv n σ H → D.nx σ H) : ForR (Itr ((lo : Nat) : Int) n) g tb D σ H :=
  forGen (n := n) Pv h0 (fun i σ H h p => h) (fun σ H p => Nat.le_refl _) (fun i x σ H H' hi p y => by
    obtain ⟨rfl, rfl⟩ := y
    rw [← Int.natCast_add]
    exact turn i σ _ hi p) done
/-- [e for x in xs], xs a tuple; what is made is told by a predicate that speaks of the new list's address, too -/
theorem lcTupD {K : PySem.W.Frag} {a : Addr} {xs : List V} {g : TG} {te : TE} {vs : List Nat} {σ : L2.St} {H1 : Hp} {Q : Addr → Hp → Prop} (T : Addr → Nat → Hp → V → Prop) (hst : ∀ D i H H' x, Same H H' → T D i H x → T D i H' x)
    (hup : ∀ D i H x us ys, H D = some (.lst us) → H1 D = none → T D i H x → T D i (upd H D (.lst ys)) x) (hq : H1 a = some (.tup xs)) (hn : xs.length ≤ 4000)
    (turn : ∀ (D : Addr) (i : Nat) (x : V) (H : Hp) (Qk : VK) (Qn : Hp → Prop), xs[i]? = some x → Same H1 H → H1 D = none → (∃ us, H D = some (.lst us)) → (∀ y H4, T D i H4 y → Same H H4 → Qk y H4) → g x (wipe σ vs) H fun σ2 H2 => wipe σ2 vs = wipe σ vs ∧ tYes σ2 H2 fun b H3 => if b = true then te σ2 H3 Qk else Qn H3)
    (done : ∀ D H ts, H1 D = none → Same H1 H → H D = some (.lst ts) → Paired (fun x i => T D i H x) ts (List.range xs.length) → Q D H) : LcD (Itt K a) g tYes te vs σ H1 Q := by
  have ef : ∀ n : Nat, (List.range n).filter (fun _ => true) = List.range n := fun n => List.filter_eq_self.mpr (fun _ _ => rfl)
  refine fun D nD => lcPred (n := xs.length) (tt := tYes) (fun _ => true) (T D) (hst D) (fun i H x us ys e h => hup D i H x us ys e nD h) nD hn (fun i H h s => ⟨xs, xs[i], sqT (s _ _ hq), List.getElem?_eq_getElem h⟩) (fun H s => ⟨xs, sqT (s _ _ hq), Nat.le_refl _⟩)
      (fun i x H H' Qk Qn h s eD y hk _ => ?_) (fun H ts s e p => done D H ts nD s e (by rw [ef] at p; exact p))
  obtain ⟨rfl, y⟩ := y
  exact turn D i x _ Qk Qn (y xs (sqT (s _ _ hq))) s nD eD fun y H4 h4 s4 => hk y H4 rfl h4 s4
/-! ### tuples of whole numbers, compared -/
theorem dpI {K : PySem.W.Frag} {H : Hp} {T : Addr} {ks : List Int} (h : H T = some (.tup (ks.map V.int))) : Dp K H (.ref T) (.tuple (ks.map PyData.int)) := .tup (sqT h) (dpInts ks)
theorem shI (ks : List Int) : SeqAt.shaped (.tuple (ks.map PyData.int)) = true := by
  unfold SeqAt.shaped
  rw [show PyData.canLay0 (.tuple (ks.map PyData.int)) = PyData.canLayAll0 (ks.map PyData.int) from rfl, canInts, Bool.true_and, decide_eq_true_eq]
  show PyData.depthAll (ks.map PyData.int) + 1 ≤ 64
  rw [depInts]
  decide
theorem eqI (ks ls : List Int) : PyData.eqv (.tuple (ks.map PyData.int)) (.tuple (ls.map PyData.int)) = decide (ks = ls) := by
  rw [PyData.eqv]
  exact eqvInts ks ls
theorem eqIr (ks : List Int) : PyData.eqv (.tuple (ks.map PyData.int)) (.tuple (ks.map PyData.int)) = true := by
  rw [eqI]
  exact decide_eq_true rfl
end K7

set_option Elab.async false
set_option linter.all false
set_option maxRecDepth 100000
set_option maxHeartbeats 4000000
namespace K7
open PySem PySem.Spec PyProof.Rows L2 GX NdefX
def topS (i : Nat) : Stmt := PySem.Challenge.pw_guardrungs_k78_load_and_dividing_periods.main.body.getD i (.Pass ⟨0, 0, 0, 0⟩)
abbrev s_BadNumber_init : Stmt := inClass (topS 3) 0
abbrev s_TooMany_init : Stmt := inClass (topS 4) 0
abbrev s_is_whole : Stmt := topS 6
abbrev s_is_listed : Stmt := topS 7
abbrev s_is_time : Stmt := topS 9
abbrev s_check_jobs : Stmt := topS 11
abbrev s__rounded_up : Stmt := topS 13
abbrev s__row : Stmt := topS 14
abbrev s_never_misses : Stmt := topS 15
abbrev s_by_periods : Stmt := topS 16
abbrev s_load : Stmt := topS 17
abbrev s__law_numbers : Stmt := topS 19
abbrev s__law_draw : Stmt := topS 20
abbrev s__law_int : Stmt := topS 21
abbrev s__law_any_jobs : Stmt := topS 22
abbrev s__law_dividing : Stmt := topS 23
abbrev s__law_lowest : Stmt := topS 24
abbrev s__law_load : Stmt := topS 25
abbrev s__law_well : Stmt := topS 26
abbrev s__law_orders : Stmt := topS 27
abbrev s__law_by_periods : Stmt := topS 28
abbrev s__law_refused : Stmt := topS 29
abbrev s__law_refusals_fit : Stmt := topS 30
abbrev s_law : Stmt := topS 31
theorem ns_BadNumber_init : NScope ["self", "word", "__class__"] ["self", "word"] ["__class__"] (defScope s_BadNumber_init) := ⟨rfl, rfl, rfl, by decide +kernel, rfl, by decide +kernel, by decide +kernel, by decide +kernel, by decide +kernel⟩
theorem ns_TooMany_init : NScope ["self", "limit", "__class__"] ["self", "limit"] ["__class__"] (defScope s_TooMany_init) := ⟨rfl, rfl, rfl, by decide +kernel, rfl, by decide +kernel, by decide +kernel, by decide +kernel, by decide +kernel⟩
abbrev n_is_whole : List Str := ["value", "least", "most"]
theorem sc_is_whole : FnScope n_is_whole ["value", "least", "most"] (defScope s_is_whole) := ⟨rfl, rfl, rfl, by decide +kernel, rfl, by decide +kernel, by decide +kernel⟩
abbrev n_is_listed : List Str := ["value"]
theorem sc_is_listed : FnScope n_is_listed ["value"] (defScope s_is_listed) := ⟨rfl, rfl, rfl, by decide +kernel, rfl, by decide +kernel, by decide +kernel⟩
abbrev n_is_time : List Str := ["period", "offset", "most"]
theorem sc_is_time : FnScope n_is_time ["period", "offset", "most"] (defScope s_is_time) := ⟨rfl, rfl, rfl, by decide +kernel, rfl, by decide +kernel, by decide +kernel⟩
abbrev n_check_jobs : List Str := ["jobs", "job"]
theorem sc_check_jobs : FnScope n_check_jobs ["jobs"] (defScope s_check_jobs) := ⟨rfl, rfl, rfl, by decide +kernel, rfl, by decide +kernel, by decide +kernel⟩
abbrev n__rounded_up : List Str := ["number", "other"]
theorem sc__rounded_up : FnScope n__rounded_up ["number", "other"] (defScope s__rounded_up) := ⟨rfl, rfl, rfl, by decide +kernel, rfl, by decide +kernel, by decide +kernel⟩
abbrev n__row : List Str := ["jobs", "place", "rungs", "period", "_", "row", "behind", "many", "each"]
theorem sc__row : FnScope n__row ["jobs", "place"] (defScope s__row) := ⟨rfl, rfl, rfl, by decide +kernel, rfl, by decide +kernel, by decide +kernel⟩
abbrev n_never_misses : List Str := ["jobs", "told", "place"]
theorem sc_never_misses : FnScope n_never_misses ["jobs"] (defScope s_never_misses) := ⟨rfl, rfl, rfl, by decide +kernel, rfl, by decide +kernel, by decide +kernel⟩
abbrev n_by_periods : List Str := ["jobs", "told", "pairs", "place", "_", "period"]
theorem sc_by_periods : FnScope n_by_periods ["jobs"] (defScope s_by_periods) := ⟨rfl, rfl, rfl, by decide +kernel, rfl, by decide +kernel, by decide +kernel⟩
abbrev n_load : List Str := ["jobs", "above", "below", "rungs", "period", "_", "both"]
theorem sc_load : FnScope n_load ["jobs"] (defScope s_load) := ⟨rfl, rfl, rfl, by decide +kernel, rfl, by decide +kernel, by decide +kernel⟩
abbrev n__law_numbers : List Str := ["script", "numbers", "place", "cell", "turned", "turn", "seed"]
theorem sc__law_numbers : FnScope n__law_numbers ["script"] (defScope s__law_numbers) := ⟨rfl, rfl, rfl, by decide +kernel, rfl, by decide +kernel, by decide +kernel⟩
abbrev n__law_draw : List Str := ["numbers", "many"]
theorem sc__law_draw : FnScope n__law_draw ["numbers", "many"] (defScope s__law_draw) := ⟨rfl, rfl, rfl, by decide +kernel, rfl, by decide +kernel, by decide +kernel⟩
abbrev n__law_int : List Str := ["value"]
theorem sc__law_int : FnScope n__law_int ["value"] (defScope s__law_int) := ⟨rfl, rfl, rfl, by decide +kernel, rfl, by decide +kernel, by decide +kernel⟩
abbrev n__law_any_jobs : List Str := ["numbers", "jobs", "t", "period"]
theorem sc__law_any_jobs : FnScope n__law_any_jobs ["numbers"] (defScope s__law_any_jobs) := ⟨rfl, rfl, rfl, by decide +kernel, rfl, by decide +kernel, by decide +kernel⟩
abbrev n__law_dividing : List Str := ["numbers", "jobs", "period", "t", "rungs", "longer", "left", "job"]
theorem sc__law_dividing : FnScope n__law_dividing ["numbers"] (defScope s__law_dividing) := ⟨rfl, rfl, rfl, by decide +kernel, rfl, by decide +kernel, by decide +kernel⟩
abbrev n__law_lowest : List Str := ["n", "d", "a", "b", "turn", "rest"]
theorem sc__law_lowest : FnScope n__law_lowest ["n", "d"] (defScope s__law_lowest) := ⟨rfl, rfl, rfl, by decide +kernel, rfl, by decide +kernel, by decide +kernel⟩
abbrev n__law_load : List Str := ["jobs", "n", "d", "job"]
theorem sc__law_load : FnScope n__law_load ["jobs"] (defScope s__law_load) := ⟨rfl, rfl, rfl, by decide +kernel, rfl, by decide +kernel, by decide +kernel⟩
abbrev n__law_well : List Str := ["jobs", "place", "last", "still", "turn", "total", "k"]
theorem sc__law_well : FnScope n__law_well ["jobs"] (defScope s__law_well) := ⟨rfl, rfl, rfl, by decide +kernel, rfl, by decide +kernel, by decide +kernel⟩
abbrev n__law_orders : List Str := ["many", "orders", "k", "longer", "order", "at"]
theorem sc__law_orders : FnScope n__law_orders ["many"] (defScope s__law_orders) := ⟨rfl, rfl, rfl, by decide +kernel, rfl, by decide +kernel, by decide +kernel⟩
abbrev n__law_by_periods : List Str := ["jobs", "order", "period", "place"]
theorem sc__law_by_periods : FnScope n__law_by_periods ["jobs"] (defScope s__law_by_periods) := ⟨rfl, rfl, rfl, by decide +kernel, rfl, by decide +kernel, by decide +kernel⟩
abbrev n__law_refused : List Str := ["word", "jobs", "told", "raised"]
theorem sc__law_refused : FnScope n__law_refused ["word", "jobs"] (defScope s__law_refused) := ⟨rfl, rfl, rfl, by decide +kernel, rfl, by decide +kernel, by decide +kernel⟩
abbrev n__law_refusals_fit : List Str := ["numbers", "jobs", "at", "word", "wrong"]
theorem sc__law_refusals_fit : FnScope n__law_refusals_fit ["numbers", "jobs"] (defScope s__law_refusals_fit) := ⟨rfl, rfl, rfl, by decide +kernel, rfl, by decide +kernel, by decide +kernel⟩
abbrev n_law : List Str := ["script", "numbers", "dividing", "jobs", "due", "told", "some", "order", "ranked", "place", "well", "job"]
theorem sc_law : FnScope n_law ["script"] (defScope s_law) := ⟨rfl, rfl, rfl, by decide +kernel, rfl, by decide +kernel, by decide +kernel⟩
end K7

set_option Elab.async false
set_option linter.all false
set_option maxRecDepth 100000
set_option maxHeartbeats 4000000
namespace K7
open PySem PySem.Spec PyProof.Rows L2 GX NdefX
/-- the built-in names are still the built-ins -/
structure Bl (mg : Str → Option Value) : Prop where
  all : mg "all" = none
  bool : mg "bool" = none
  enumerate : mg "enumerate" = none
  int : mg "int" = none
  isinstance : mg "isinstance" = none
  len : mg "len" = none
  list : mg "list" = none
  max : mg "max" = none
  min : mg "min" = none
  range : mg "range" = none
  sorted : mg "sorted" = none
  str : mg "str" = none
  sum : mg "sum" = none
  tuple : mg "tuple" = none
/-- a def of the top: where it stands, how it is called -/
structure Kn (K : PySem.W.Frag) (mg : Str → Option Value) (x : Str) (st : Stmt) (ps : List Str) where
  f : Addr
  fd : FuncData
  F : Fun K x x st f fd
  b : Binds K fd ps []
  g : mg x = some (.ref f)
/-- an exception class of the top -/
structure Ke (P : Program) (K : PySem.W.Frag) (mg : Str → Option Value) (x q : Str) (st : Stmt) (ps fs : List Str) where
  C : Addr
  f : Addr
  fd : FuncData
  T : Sup P K mg C f q st fd
  b : Binds K fd ps []
  nf : ∀ y ∈ fs, PySem.W.findIn K (.ref C) y = some none
  g : mg x = some (.ref C)
  X : XfC K C
/-- the whole top -/
structure Pr (P : Program) (K : PySem.W.Frag) (mg : Str → Option Value) where
  B : Bl mg
  BadNumber : Ke P K mg "BadNumber" "BadNumber.__init__" s_BadNumber_init ["self", "word"] ["word"]
  TooMany : Ke P K mg "TooMany" "TooMany.__init__" s_TooMany_init ["self", "limit"] ["limit"]
  x_BadNumber_BadNumber : PySem.W.exmOne K (.ref BadNumber.C) (.ref BadNumber.C) = some true
  x_BadNumber_TooMany : PySem.W.exmOne K (.ref BadNumber.C) (.ref TooMany.C) = some false
  x_TooMany_BadNumber : PySem.W.exmOne K (.ref TooMany.C) (.ref BadNumber.C) = some false
  x_TooMany_TooMany : PySem.W.exmOne K (.ref TooMany.C) (.ref TooMany.C) = some true
  g_gcd : mg "gcd" = some (.builtin "math.gcd")
  is_whole : Kn K mg "is_whole" s_is_whole ["value", "least", "most"]
  is_listed : Kn K mg "is_listed" s_is_listed ["value"]
  is_time : Kn K mg "is_time" s_is_time ["period", "offset", "most"]
  check_jobs : Kn K mg "check_jobs" s_check_jobs ["jobs"]
  _rounded_up : Kn K mg "_rounded_up" s__rounded_up ["number", "other"]
  _row : Kn K mg "_row" s__row ["jobs", "place"]
  never_misses : Kn K mg "never_misses" s_never_misses ["jobs"]
  by_periods : Kn K mg "by_periods" s_by_periods ["jobs"]
  load : Kn K mg "load" s_load ["jobs"]
  _law_numbers : Kn K mg "_law_numbers" s__law_numbers ["script"]
  _law_draw : Kn K mg "_law_draw" s__law_draw ["numbers", "many"]
  _law_int : Kn K mg "_law_int" s__law_int ["value"]
  _law_any_jobs : Kn K mg "_law_any_jobs" s__law_any_jobs ["numbers"]
  _law_dividing : Kn K mg "_law_dividing" s__law_dividing ["numbers"]
  _law_lowest : Kn K mg "_law_lowest" s__law_lowest ["n", "d"]
  _law_load : Kn K mg "_law_load" s__law_load ["jobs"]
  _law_well : Kn K mg "_law_well" s__law_well ["jobs"]
  _law_orders : Kn K mg "_law_orders" s__law_orders ["many"]
  _law_by_periods : Kn K mg "_law_by_periods" s__law_by_periods ["jobs"]
  _law_refused : Kn K mg "_law_refused" s__law_refused ["word", "jobs"]
  _law_refusals_fit : Kn K mg "_law_refusals_fit" s__law_refusals_fit ["numbers", "jobs"]
end K7

set_option Elab.async false
set_option linter.all false
set_option maxRecDepth 100000
set_option maxHeartbeats 4000000
namespace K7
open PySem PySem.Spec PyProof.Rows L2 GX NdefX
/-! ### is_whole, is_listed, is_time -/
def spWhole : Sp := fun vs H Q _ => ∃ (x : V) (l m : Int), vs = [x, .int l, .int m] ∧ ((∃ i, x = .int i) ∨ ∃ b, x = .bl b) ∧ Q (.bl (wholeV l m x)) H
def spListed : Sp := fun vs H Q _ => ∃ x : V, vs = [x] ∧ ((∃ a xs, x = .ref a ∧ Sq H a xs ∧ ∀ H', Same H H' → Q (.bl true) H') ∨ (Scal x ∧ ∀ H', Same H H' → Q (.bl false) H'))
def spTime : Sp := fun vs H Q _ => ∃ (p o m : Int), vs = [.int p, .int o, .int m] ∧ Q (.bl (decide (1 ≤ p ∧ p ≤ m ∧ 0 ≤ o ∧ o ≤ p - 1))) H
def spWord (C : Addr) : Sp := fun vs H Q _ => ∃ (a : Addr) (z : Str), vs = [.ref a, .str z] ∧ H a = some (exo a C none) ∧ z.length ≤ 100 ∧
  ∀ dx, H dx = none → dx ≠ a → Q .non (upd (upd H dx (exd dx [("word", .str z)])) a (exo a C (some dx)))
def spLimit (C : Addr) : Sp := fun vs H Q _ => ∃ (a : Addr) (i : Int), vs = [.ref a, .int i] ∧ H a = some (exo a C none) ∧ i.natAbs.log2 < 1920 ∧ (Str.ofString (toString i)).length ≤ 100 ∧
  ∀ dx, H dx = none → dx ≠ a → Q .non (upd (upd H dx (exd dx [("limit", .int i)])) a (exo a C (some dx)))
section
variable {P : Program} {w : World} {K : PySem.W.Frag} {mg : Str → Option Value} {base : Heap}
theorem ok_whole {k : Nat} (D : Pr P K mg) : FnOk P w K mg base CX0 (k + 1) D.is_whole.f D.is_whole.fd ["value", "least", "most"] spWhole := by
  refine D.is_whole.F.ok sc_is_whole (fun vs H Q E h => ?_) (fun cdv A outer s H vs Q E hr h => ?_)
  · obtain ⟨x, l, m, rfl, _⟩ := h
    rfl
  · obtain ⟨x, l, m, rfl, hx, q⟩ := h
    refine ⟨_, (pss_cons (ps_if (PW.pt (pw_or (pt_not (pt_val (pe_callB call_isi (by rfl) D.B.isinstance (by decide +kernel) (pa_cons (pv 0) (pa_cons (pe_bltn (v := .ty "int") (u := .type "int") (by rfl) D.B.int (by decide +kernel) rfl) pa_nil))))) (pw_or1 (pt_val (pe_callB call_isi (by rfl) D.B.isinstance (by decide +kernel) (pa_cons (pv 0) (pa_cons (pe_bltn (v := .ty "bool") (u := .type "bool") (by rfl) D.B.bool (by decide +kernel) rfl) pa_nil))))))) (pss_one (ps_ret pe_bl)) pss_nil)
      (pss_one (ps_ret (pe_and (pe_cmpR op_le (pv 1) (pv 0) (nomark _)) (pe_one (pe_or (pe_cmpR op_isN (pv 2) pe_non (nomark _)) (pe_one (pe_cmpR op_le (pv 0) (pv 2) (nomark _))))))))), ?_⟩
    rcases hx with ⟨i, rfl⟩ | ⟨b, rfl⟩
    · refine ⟨_, rfl, _, _, .type "int", _, true, rfl, .ty "int", .base (.int i), kit_ty (by decide +kernel), true, rfl, iteF ?_⟩
      refine ⟨_, rfl, _, _, .type "int", _, false, rfl, .ty "bool", .base (.int i), kit_ty (by decide +kernel), false, rfl, iteF ?_⟩
      refine ⟨_, rfl, _, rfl, _, _, rfl, rfl, _, rfl, ?_⟩
      have q : Q (.bl (decide (l ≤ i) && decide (i ≤ m))) H := q
      by_cases h1 : l ≤ i
      · rw [decide_eq_true h1] at q ⊢
        refine iteT ⟨_, rfl, rfl, false, rfl, iteF ⟨_, rfl, _, rfl, _, _, rfl, rfl, ?_⟩⟩
        rw [Bool.true_and] at q
        exact q
      · rw [decide_eq_false h1] at q ⊢
        exact iteF q
    · refine ⟨_, rfl, _, _, .type "bool", _, true, rfl, .ty "int", .base (.bl b), kit_ty (by decide +kernel), true, rfl, iteF ?_⟩
      refine ⟨_, rfl, _, _, .type "bool", _, true, rfl, .ty "bool", .base (.bl b), kit_ty (by decide +kernel), true, rfl, iteT q⟩
theorem ok_listed {k : Nat} (D : Pr P K mg) : FnOk P w K mg base CX0 (k + 1) D.is_listed.f D.is_listed.fd ["value"] spListed := by
  refine D.is_listed.F.ok sc_is_listed (fun vs H Q E h => ?_) (fun cdv A outer s H vs Q E hr h => ?_)
  · obtain ⟨x, rfl, _⟩ := h
    rfl
  · obtain ⟨x, rfl, hx⟩ := h
    refine ⟨_, (pss_one (ps_ret (pe_callB call_isiT (by rfl) D.B.isinstance (by decide +kernel) (pa_cons (pv 0) (pa_cons (pe_tup (pa_cons (pe_bltn (v := .ty "list") (u := .type "list") (by rfl) D.B.list (by decide +kernel) rfl) (pa_cons (pe_bltn (v := .ty "tuple") (u := .type "tuple") (by rfl) D.B.tuple (by decide +kernel) rfl) pa_nil))) pa_nil))))), ?_⟩
    refine ⟨x, rfl, by show 2 ≤ sizeLine; decide, fun p np => ?_⟩
    have s1 : Same H (upd H p (.tup [.ty "list", .ty "tuple"])) := same_upd np
    have cl : Paired ClsV [.ty "list", .ty "tuple"] [.type "list", .type "tuple"] := .cons (.ty "list") (.cons (.ty "tuple") .nil)
    rcases hx with ⟨a, xs, rfl, hs, q⟩ | ⟨hs, q⟩
    · rcases hs with hs | hs
      · exact ⟨_, p, _, .type "list", _, true, rfl, upd_same, cl, .base (.lst (s1 _ _ hs)), kitAny_cons (b := true) (kit_ty (by decide +kernel)) (fun z => by cases z) (fun _ => rfl), q _ s1⟩
      · exact ⟨_, p, _, .type "tuple", _, true, rfl, upd_same, cl, .base (.tup (s1 _ _ hs)), kitAny_cons (b := false) (kit_ty (by decide +kernel)) (fun _ => kitAny_cons (b := true) (kit_ty (by decide +kernel)) (fun z => by cases z) (fun _ => rfl)) (fun z => by cases z), q _ s1⟩
    · rcases hs with rfl | ⟨i, rfl⟩ | ⟨z, rfl⟩
      · exact ⟨_, p, _, .type "NoneType", _, false, rfl, upd_same, cl, .base .non, kitAny_cons (b := false) (kit_ty (by decide +kernel)) (fun _ => kitAny_cons (b := false) (kit_ty (by decide +kernel)) (fun _ => kitAny_nil) (fun z => by cases z)) (fun z => by cases z), q _ s1⟩
      · exact ⟨_, p, _, .type "int", _, false, rfl, upd_same, cl, .base (.int i), kitAny_cons (b := false) (kit_ty (by decide +kernel)) (fun _ => kitAny_cons (b := false) (kit_ty (by decide +kernel)) (fun _ => kitAny_nil) (fun z => by cases z)) (fun z => by cases z), q _ s1⟩
      · exact ⟨_, p, _, .type "str", _, false, rfl, upd_same, cl, .base (.str z), kitAny_cons (b := false) (kit_ty (by decide +kernel)) (fun _ => kitAny_cons (b := false) (kit_ty (by decide +kernel)) (fun _ => kitAny_nil) (fun z => by cases z)) (fun z => by cases z), q _ s1⟩
theorem ok_time {k : Nat} (D : Pr P K mg) : FnOk P w K mg base CX0 (k + 2) D.is_time.f D.is_time.fd ["period", "offset", "most"] spTime := by
  have G_is_whole : FnOk P w K mg base CX0 (k + 1) D.is_whole.f D.is_whole.fd ["value", "least", "most"] spWhole := ok_whole D
  refine D.is_time.F.ok sc_is_time (fun vs H Q E h => ?_) (fun cdv A outer s H vs Q E hr h => ?_)
  · obtain ⟨p, o, m, rfl, _⟩ := h
    rfl
  · obtain ⟨p, o, m, rfl, q⟩ := h
    refine ⟨_, (pss_one (ps_ret (pe_and (pe_call G_is_whole hr (by rfl) D.is_whole.g D.is_whole.F.kp D.is_whole.b .nil pass0 (pa_cons (pv 0) (pa_cons pe_int (pa_cons (pv 2) pa_nil)))) (pe_one (pe_call G_is_whole hr (by rfl) D.is_whole.g D.is_whole.F.kp D.is_whole.b .nil pass0 (pa_cons (pv 1) (pa_cons pe_int (pa_cons (pe_op op_sub (pv 0) pe_int) pa_nil)))))))), ?_⟩
    refine ⟨.int p, rfl, .int m, rfl, .int p, 1, m, rfl, .inl ⟨p, rfl⟩, _, rfl, ?_⟩
    have e : wholeV 1 m (.int p) = (decide (1 ≤ p) && decide (p ≤ m)) := rfl
    rw [e]
    by_cases h1 : 1 ≤ p ∧ p ≤ m
    · rw [decide_eq_true h1.1, decide_eq_true h1.2]
      refine iteT ⟨.int o, rfl, .int p, rfl, p, 1, rfl, rfl, .int o, 0, p - 1, rfl, .inl ⟨o, rfl⟩, ?_⟩
      have e2 : wholeV 0 (p - 1) (.int o) = decide (1 ≤ p ∧ p ≤ m ∧ 0 ≤ o ∧ o ≤ p - 1) := by
        show (decide (0 ≤ o) && decide (o ≤ p - 1)) = _
        rw [← Bool.decide_and]
        exact decide_eq_decide.mpr ⟨fun z => ⟨h1.1, h1.2, z⟩, fun z => z.2.2⟩
      rw [e2]
      exact q
    · have e3 : (decide (1 ≤ p) && decide (p ≤ m)) = false := by
        rw [← Bool.decide_and]
        exact decide_eq_false h1
      rw [e3]
      refine iteF ?_
      rw [decide_eq_false (fun z => h1 ⟨z.1, z.2.1⟩)] at q
      exact q
/-! ### the exceptions' own __init__ -/
theorem ok_word {k : Nat} (D : Pr P K mg) : FnOk P w K mg base CX0 (k + 1) D.BadNumber.f D.BadNumber.fd ["self", "word"] (spWord D.BadNumber.C) := by
  refine fn_ofI D.BadNumber.T ns_BadNumber_init rfl rfl rfl (fun vs H Q E h => ?_) rfl (fun _ _ _ => ⟨rfl, rfl, ⟨_, rfl⟩, rfl, rfl⟩) (fun cc cda A outer s H vs Q E hr h => ?_)
  · obtain ⟨a, z, rfl, _⟩ := h
    rfl
  · obtain ⟨a, z, rfl, ha, hz, q⟩ := h
    refine ⟨a, _, _, _, rfl, ha, pa_cons (pe_joined (PJ.cons pe_str (PJ.cons (pe_fmt (pv 1)) PJ.nil))) pa_nil, pss_one (ps_ost (pv 0) (pv 1)), ?_⟩
    refine ⟨_, rfl, by rw [lenApp]; exact Nat.le_trans (by decide) (Nat.le_refl _), .str z, rfl, .inl ⟨z, rfl, Nat.le_trans hz (by decide), z, rfl, ?_, ha, by show 1 ≤ 1000; decide, ?_⟩⟩
    · rw [lenApp, lenApp]
      have : sizeLine = 16777216 := sizeLine_eq
      have e : (Str.ofString "out of range: ").length = 14 := by decide
      have e2 : Str.empty.length = 0 := by decide
      omega
    · exact ⟨.str z, rfl, .ref a, rfl, a, D.BadNumber.C, rfl, D.BadNumber.T.O, D.BadNumber.nf _ (by simp), .inl ⟨ha, q⟩⟩
theorem ok_limit {k : Nat} (D : Pr P K mg) : FnOk P w K mg base CX0 (k + 1) D.TooMany.f D.TooMany.fd ["self", "limit"] (spLimit D.TooMany.C) := by
  refine fn_ofI D.TooMany.T ns_TooMany_init rfl rfl rfl (fun vs H Q E h => ?_) rfl (fun _ _ _ => ⟨rfl, rfl, ⟨_, rfl⟩, rfl, rfl⟩) (fun cc cda A outer s H vs Q E hr h => ?_)
  · obtain ⟨a, z, rfl, _⟩ := h
    rfl
  · obtain ⟨a, i, rfl, ha, hi, hz, q⟩ := h
    refine ⟨a, _, _, _, rfl, ha, pa_cons (pe_joined (PJ.cons pe_str (PJ.cons (pe_fmt (pv 1)) PJ.nil))) pa_nil, pss_one (ps_ost (pv 0) (pv 1)), ?_⟩
    refine ⟨_, rfl, by rw [lenApp]; exact Nat.le_trans (by decide) (Nat.le_refl _), .int i, rfl, .inr ⟨i, rfl, hi, toString i, rfl, ?_, ha, by show 1 ≤ 1000; decide, ?_⟩⟩
    · rw [lenApp, lenApp]
      have : sizeLine = 16777216 := sizeLine_eq
      have e : (Str.ofString "more than ").length = 10 := by decide
      have e2 : Str.empty.length = 0 := by decide
      omega
    · exact ⟨.int i, rfl, .ref a, rfl, a, D.TooMany.C, rfl, D.TooMany.T.O, D.TooMany.nf _ (by simp), .inl ⟨ha, q⟩⟩
theorem mkO_word {E : XK} {C : Addr} {H H1 : Hp} {z : Str} (hz : z.length ≤ 100) (h : Rai E C H [("word", .str z)]) (s : Same H H1) :
    [V.str z].length ≤ 1000 ∧ ∀ a, H1 a = none → spWord C (.ref a :: ([V.str z] ++ [])) (upd H1 a (exo a C none)) (fun v H2 => v = .non ∧ ∃ d fs, H2 a = some (exo a C (some d)) ∧ H2 d = some (exd d fs) ∧ H1 d = none ∧ E (.ref C) (some d) (upd (del H2 a) d (.xd fs))) (fun _ _ _ => False) := by
  refine ⟨by show 1 ≤ 1000; decide, fun a na => ⟨a, z, rfl, upd_same, hz, fun dx nx ne => ?_⟩⟩
  rw [upd_ne ne] at nx
  refine ⟨rfl, dx, _, upd_same, by rw [upd_ne ne, upd_same], nx, h dx _ (s.trans (xsame na nx fun b h1 h2 => ?_)) upd_same⟩
  rw [upd_ne h1, upd_ne h2, upd_ne h1]
theorem mkO_limit {E : XK} {C : Addr} {H H1 : Hp} {i : Int} (hi : i.natAbs.log2 < 1920 ∧ (Str.ofString (toString i)).length ≤ 100) (h : Rai E C H [("limit", .int i)]) (s : Same H H1) :
    [V.int i].length ≤ 1000 ∧ ∀ a, H1 a = none → spLimit C (.ref a :: ([V.int i] ++ [])) (upd H1 a (exo a C none)) (fun v H2 => v = .non ∧ ∃ d fs, H2 a = some (exo a C (some d)) ∧ H2 d = some (exd d fs) ∧ H1 d = none ∧ E (.ref C) (some d) (upd (del H2 a) d (.xd fs))) (fun _ _ _ => False) := by
  refine ⟨by show 1 ≤ 1000; decide, fun a na => ⟨a, i, rfl, upd_same, hi.1, hi.2, fun dx nx ne => ?_⟩⟩
  rw [upd_ne ne] at nx
  refine ⟨rfl, dx, _, upd_same, by rw [upd_ne ne, upd_same], nx, h dx _ (s.trans (xsame na nx fun b h1 h2 => ?_)) upd_same⟩
  rw [upd_ne h1, upd_ne h2, upd_ne h1]
end
end K7

set_option Elab.async false
set_option linter.all false
set_option maxRecDepth 100000
set_option maxHeartbeats 4000000
namespace K7
open PySem PySem.Spec PyProof.Rows L2 GX NdefX
/-! ### jobs -/
structure Job where
  r : Nat
  p : Nat
  o : Nat
deriving DecidableEq, Inhabited
structure JOk (j : Job) : Prop where
  r1 : 1 ≤ j.r
  r2 : j.r ≤ 12
  p1 : 1 ≤ j.p
  p2 : j.p ≤ 24
  o1 : j.o < j.p
def jv (j : Job) : List V := [.int (j.r : Nat), .int (j.p : Nat), .int (j.o : Nat)]
def ji (j : Job) : List Int := [(j.r : Nat), (j.p : Nat), (j.o : Nat)]
theorem ji_v (j : Job) : (ji j).map V.int = jv j := rfl
/-- a tuple of tuples: jobs -/
def JobsT (H : Hp) (a : Addr) (js : List Job) : Prop := ∃ ts, H a = some (.tup ts) ∧ TupsT H ts (js.map jv)
theorem JobsT.same {H H' : Hp} {a : Addr} {js : List Job} (s : Same H H') (h : JobsT H a js) : JobsT H' a js := by
  obtain ⟨ts, e, p⟩ := h
  exact ⟨ts, s _ _ e, p.same s⟩
/-- what is handed in as a job: a list of numbers, or a thing that is none -/
def ItAt (H : Hp) (x : V) : Option (List Int) → Prop
  | none => Scal x
  | some ns => ∃ b, x = .ref b ∧ Sq H b (ns.map V.int) ∧ ns.length ≤ 1000
theorem ItAt.same {H H' : Hp} {x : V} {it : Option (List Int)} (s : Same H H') (h : ItAt H x it) : ItAt H' x it := by
  cases it with
  | none => exact h
  | some ns =>
    obtain ⟨b, e, h, l⟩ := h
    exact ⟨b, e, h.same s, l⟩
def goodL : List Int → Bool
  | [r, p, o] => decide (1 ≤ r ∧ r ≤ 12) && decide (1 ≤ p ∧ p ≤ 24 ∧ 0 ≤ o ∧ o ≤ p - 1)
  | _ => false
def goodI : Option (List Int) → Bool
  | some ns => goodL ns
  | none => false
def toJ : Option (List Int) → Job
  | some [r, p, o] => ⟨r.toNat, p.toNat, o.toNat⟩
  | _ => ⟨1, 1, 0⟩
theorem toJ_ok {it : Option (List Int)} (h : goodI it = true) : JOk (toJ it) ∧ it = some (ji (toJ it)) := by
  cases it with
  | none => cases h
  | some ns =>
    match ns, h with
    | [r, p, o], h =>
      have h : (decide (1 ≤ r ∧ r ≤ 12) && decide (1 ≤ p ∧ p ≤ 24 ∧ 0 ≤ o ∧ o ≤ p - 1)) = true := h
      rw [Bool.and_eq_true, decide_eq_true_iff, decide_eq_true_iff] at h
      obtain ⟨⟨h1, h2⟩, h3, h4, h5, h6⟩ := h
      refine ⟨⟨?_, ?_, ?_, ?_, ?_⟩, ?_⟩
      · show 1 ≤ r.toNat; omega
      · show r.toNat ≤ 12; omega
      · show 1 ≤ p.toNat; omega
      · show p.toNat ≤ 24; omega
      · show o.toNat < p.toNat; omega
      · show some [r, p, o] = some [((r.toNat : Nat) : Int), ((p.toNat : Nat) : Int), ((o.toNat : Nat) : Int)]
        rw [Int.toNat_of_nonneg (by omega), Int.toNat_of_nonneg (by omega), Int.toNat_of_nonneg (by omega)]
theorem good_ji {j : Job} (h : JOk j) : goodI (some (ji j)) = true := by
  show (decide (1 ≤ ((j.r : Nat) : Int) ∧ ((j.r : Nat) : Int) ≤ 12) && decide (1 ≤ ((j.p : Nat) : Int) ∧ ((j.p : Nat) : Int) ≤ 24 ∧ 0 ≤ ((j.o : Nat) : Int) ∧ ((j.o : Nat) : Int) ≤ ((j.p : Nat) : Int) - 1)) = true
  have := h.r1; have := h.r2; have := h.p1; have := h.p2; have := h.o1
  rw [decide_eq_true (by omega), decide_eq_true (by omega)]
  rfl
theorem toJ_ji (j : Job) : toJ (some (ji j)) = j := by
  show Job.mk _ _ _ = j
  rw [Int.toNat_natCast, Int.toNat_natCast, Int.toNat_natCast]
/-- what is handed in as jobs -/
def JbAt (H : Hp) (x : V) : Option (List (Option (List Int))) → Prop
  | none => Scal x
  | some its => ∃ a xs, x = .ref a ∧ Sq H a xs ∧ Paired (ItAt H) xs its ∧ its.length ≤ 1000
theorem JbAt.same {H H' : Hp} {x : V} {j : Option (List (Option (List Int)))} (s : Same H H') (h : JbAt H x j) : JbAt H' x j := by
  cases j with
  | none => exact h
  | some its =>
    obtain ⟨a, xs, e, h, p, l⟩ := h
    exact ⟨a, xs, e, h.same s, paired_imp (fun _ _ h => h.same s) p, l⟩
/-- what comes of checking: the jobs, or what is raised -/
inductive Chk where
  | num | many | ok (js : List Job)
def chk : Option (List (Option (List Int))) → Chk
  | none => .num
  | some its => if 5 < its.length then .many else if its.all goodI = true then .ok (its.map toJ) else .num
theorem chk_ok {j : Option (List (Option (List Int)))} {js : List Job} (h : chk j = .ok js) : js.length ≤ 5 ∧ ∀ x ∈ js, JOk x := by
  cases j with
  | none => cases h
  | some its =>
    have h : (if 5 < its.length then Chk.many else if its.all goodI = true then .ok (its.map toJ) else .num) = .ok js := h
    by_cases h5 : 5 < its.length
    · rw [if_pos h5] at h; cases h
    · rw [if_neg h5] at h
      by_cases hg : its.all goodI = true
      · rw [if_pos hg] at h
        cases h
        refine ⟨by rw [List.length_map]; omega, fun x hx => ?_⟩
        obtain ⟨it, hi, rfl⟩ := List.mem_map.mp hx
        exact (toJ_ok (List.all_eq_true.mp hg it hi)).1
      · rw [if_neg hg] at h; cases h
/-- what a def that checks jobs first promises -/
def Chkd (CN CM : Addr) (E : XK) (H : Hp) (ok : List Job → Prop) : Chk → Prop
  | .num => Rai E CN H [("word", .str "jobs")]
  | .many => Rai E CM H [("limit", .int 5)]
  | .ok js => ok js
def spCheck (CN CM : Addr) : Sp := fun vs H Q E => ∃ x j, vs = [x] ∧ JbAt H x j ∧ Chkd CN CM E H (fun js => ∀ a H', Same H H' → JobsT H' a js → Q (.ref a) H') (chk j)
theorem paired_range {α : Type} {T : Nat → α → Prop} {β : Type} {G : α → β → Prop} {ys : List β} : ∀ {ts : List α} {n : Nat}, Paired (fun x i => T i x) ts (List.range n) → n = ys.length → (∀ i x y, ys[i]? = some y → T i x → G x y) → Paired G ts ys := by
  intro ts n p e k
  subst e
  have key : ∀ {m s : List Nat} {ts : List α} (ys' : List β), Paired (fun x i => T i x) ts m → m.length = ys'.length → (∀ (j i : Nat) (y : β), m[j]? = some i → ys'[j]? = some y → ys[i]? = some y) → Paired G ts ys' := by
    intro m s ts ys' p
    induction p generalizing ys' with
    | nil =>
      intro l _
      cases ys' with
      | nil => exact .nil
      | cons _ _ => cases l
    | cons f r ih =>
      intro l h
      cases ys' with
      | nil => cases l
      | cons y ys' =>
        exact .cons (k _ _ _ (h 0 _ _ rfl rfl) f) (ih ys' (by simpa using l) fun j i y h1 h2 => h (j + 1) i y h1 h2)
  refine key (s := []) ys p (by rw [List.length_range]) fun j i y h1 h2 => ?_
  rw [List.getElem?_range] at h1
  · cases h1; exact h2
  · exact (List.getElem?_eq_some_iff.mp h2).1
section
variable {P : Program} {w : World} {K : PySem.W.Frag} {mg : Str → Option Value} {base : Heap}
theorem ok_check_jobs {k : Nat} (D : Pr P K mg) : FnOk P w K mg base (CX P w) (k + 3) D.check_jobs.f D.check_jobs.fd ["jobs"] (spCheck D.BadNumber.C D.TooMany.C) := by
  have G_is_whole : FnOk P w K mg base CX0 (k + 1) D.is_whole.f D.is_whole.fd ["value", "least", "most"] spWhole := ok_whole D
  have G_is_listed : FnOk P w K mg base CX0 (k + 1) D.is_listed.f D.is_listed.fd ["value"] spListed := ok_listed D
  have G_is_time : FnOk P w K mg base CX0 (k + 2) D.is_time.f D.is_time.fd ["period", "offset", "most"] spTime := ok_time D
  have GX_BadNumber : FnOk P w K mg base CX0 (k + 1) D.BadNumber.f D.BadNumber.fd ["self", "word"] (spWord D.BadNumber.C) := ok_word D
  have GX_TooMany : FnOk P w K mg base CX0 (k + 1) D.TooMany.f D.TooMany.fd ["self", "limit"] (spLimit D.TooMany.C) := ok_limit D
  refine D.check_jobs.F.okX sc_check_jobs (fun vs H Q E h => ?_) (fun cdv A outer s H vs Q E hr h => ?_)
  · obtain ⟨x, j, rfl, _⟩ := h
    rfl
  · obtain ⟨x, j, rfl, hj, h⟩ := h
    refine ⟨_, (pss_cons (ps_if (pt_not (pt_val (pe_call G_is_listed (hr.mono (by omega)) (by rfl) D.is_listed.g D.is_listed.F.kp D.is_listed.b .nil pass0 (pa_cons (pv 0) pa_nil)))) (pss_one (ps_raise rfl (takes_of rfl rfl rfl rfl) (pmk_oex D.BadNumber.T.O D.BadNumber.T.iC D.BadNumber.T.tI GX_BadNumber (hr.mono (by omega)) D.BadNumber.b .nil pass0 (by rfl) D.BadNumber.g (pa_cons pe_str pa_nil)))) pss_nil)
      (pss_cons (ps_if (pt_cmpR op_gt (pe_callB call_len (by rfl) D.B.len PySem.boot_len (pa_cons (pv 0) pa_nil)) pe_int (nomark _)) (pss_one (ps_raise rfl (takes_of rfl rfl rfl rfl) (pmk_oex D.TooMany.T.O D.TooMany.T.iC D.TooMany.T.tI GX_TooMany (hr.mono (by omega)) D.TooMany.b .nil pass0 (by rfl) D.TooMany.g (pa_cons pe_int pa_nil)))) pss_nil)
      (pss_cons (ps_for (by passes_own) rfl (pi_seq (pv 0)) (pg_name (i := 1) sc_check_jobs.nd rfl (.inl rfl)) (pss_one (ps_if (PW.pt (pw_or (pt_not (pt_val (pe_call G_is_listed (hr.mono (by omega)) (by rfl) D.is_listed.g D.is_listed.F.kp D.is_listed.b .nil pass0 (pa_cons (pv 1) pa_nil)))) (pw_or (pt_cmpR op_ne (pe_callB call_len (by rfl) D.B.len PySem.boot_len (pa_cons (pv 1) pa_nil)) pe_int (nomark _)) (pw_or (pt_not (pt_val (pe_call G_is_whole (hr.mono (by omega)) (by rfl) D.is_whole.g D.is_whole.F.kp D.is_whole.b .nil pass0 (pa_cons (pe_ix (r := rIx K) ix_seq (pv 1) pe_int (fun _ _ => rfl)) (pa_cons pe_int (pa_cons pe_int pa_nil)))))) (pw_or1 (pt_not (pt_val (pe_call G_is_time hr (by rfl) D.is_time.g D.is_time.F.kp D.is_time.b .nil pass0 (pa_cons (pe_ix (r := rIx K) ix_seq (pv 1) pe_int (fun _ _ => rfl)) (pa_cons (pe_ix (r := rIx K) ix_seq (pv 1) pe_int (fun _ _ => rfl)) (pa_cons pe_int pa_nil))))))))))) (pss_one (ps_raise rfl (takes_of rfl rfl rfl rfl) (pmk_oex D.BadNumber.T.O D.BadNumber.T.iC D.BadNumber.T.tI GX_BadNumber (hr.mono (by omega)) D.BadNumber.b .nil pass0 (by rfl) D.BadNumber.g (pa_cons pe_str pa_nil)))) pss_nil)))
      (pss_one (ps_ret (pe_callTy call_tuple_of (by rfl) D.B.tuple (by decide +kernel) (pa_cons (pe_lc (own := [("job", 1)]) (g := (gName 1)) (tt := tYes) rfl sc_check_jobs.nd (pi_seq (pv 0)) (blkOk_by (own := [("job", 1)]) (N := n_check_jobs) (sc := defScope s_check_jobs) (by decide +kernel)) (fun _ _ _ _ _ => (pg_name (i := 1) sc_check_jobs.nd rfl (.inl rfl))) (fun _ _ _ _ _ => pts_nil) (fun _ _ _ _ _ => (pe_callTy (r := rTupOf K) call_tuple_of (by rfl) D.B.tuple (by decide +kernel) (pa_cons (pv 1) pa_nil)))) pa_nil))))))), ?_⟩
    cases j with
    | none => exact ⟨x, rfl, x, rfl, .inr ⟨hj, fun H1 s1 => ⟨_, rfl, iteT (mkO_word (by decide) (h.same s1) (Same.refl _))⟩⟩⟩
    | some its =>
      obtain ⟨a, xs, rfl, hq, pl, hl⟩ := hj
      have lx : xs.length = its.length := pl.length
      refine ⟨.ref a, rfl, .ref a, rfl, .inl ⟨a, xs, rfl, hq, fun H1 s1 => ⟨_, rfl, iteF ?_⟩⟩⟩
      refine ⟨.ref a, rfl, .ref a, its.length, rfl, lenV_sq (hq.same s1) lx, its.length, 5, rfl, rfl, _, rfl, ?_⟩
      by_cases h5 : 5 < its.length
      · rw [decide_eq_true (by omega)]
        have h : Rai E D.TooMany.C H [("limit", .int 5)] := by
          have e : chk (some its) = .many := if_pos h5
          rw [e] at h
          exact h
        exact iteT (mkO_limit (by decide) (h.same s1) (Same.refl _))
      rw [decide_eq_false (by omega)]
      have bad : ∀ it ∈ its, goodI it = false → Rai E D.BadNumber.C H [("word", .str "jobs")] := fun it hi hb => by
        have e : chk (some its) = .num := by
          show (if 5 < its.length then Chk.many else if its.all goodI = true then .ok (its.map toJ) else .num) = .num
          rw [if_neg h5, if_neg fun z => by rw [List.all_eq_true.mp z it hi] at hb; cases hb]
        rw [e] at h
        exact h
      refine iteF ⟨.ref a, rfl, a, xs, rfl, forSeq (D := { nx := _, rt := Q }) (fun i σ H' => (∃ c1, σ = [some (.ref a), c1]) ∧ Same H1 H' ∧ ∀ k it, k < i → its[k]? = some it → goodI it = true) (hq.same s1) ⟨⟨_, rfl⟩, Same.refl _, fun k it h => absurd h (by omega)⟩ (fun i σ H' o p e => p.2.1 _ _ e) ?_ ?_⟩
      · rintro i y σ H2 hy ⟨⟨c1, rfl⟩, s2', hp⟩
        have s2 := s1.trans s2'
        obtain ⟨it, hit, hy2⟩ := paired_get pl hy
        have him : it ∈ its := List.mem_of_getElem? hit
        have fin : ∀ H3, Same H2 H3 → goodI it = true → (∃ c1, [some (V.ref a), some y] = [some (V.ref a), c1]) ∧ Same H1 H3 ∧ ∀ k it, k < i + 1 → its[k]? = some it → goodI it = true := fun H3 s3 hg => by
          refine ⟨⟨_, rfl⟩, s2'.trans s3, fun k it2 hk h2 => ?_⟩
          by_cases e : k = i
          · subst e
            rw [hit] at h2
            cases h2
            exact hg
          · exact hp k it2 (by omega) h2
        cases it with
        | none => exact ⟨y, rfl, y, rfl, .inr ⟨hy2, fun H3 s3 => ⟨_, rfl, iteT (mkO_word (by decide) ((bad _ him rfl).same (s2.trans s3)) (Same.refl _))⟩⟩⟩
        | some ns =>
          obtain ⟨b, rfl, hb, hnl⟩ := hy2
          have hb := hb.same s2
          refine ⟨.ref b, rfl, .ref b, rfl, .inl ⟨b, _, rfl, hb, fun H3 s3 => ⟨_, rfl, iteF ?_⟩⟩⟩
          have hb3 := hb.same s3
          have s03 := s2.trans s3
          refine ⟨.ref b, rfl, .ref b, ns.length, rfl, lenV_sq hb3 (List.length_map _), rfl, _, rfl, ?_⟩
          by_cases h3 : ns.length = 3
          case neg =>
            refine iteTq (by rw [decide_eq_false fun e => h3 (by have := V.int.inj e; omega)]; rfl) (mkO_word (by decide) ((bad _ him ?_).same s03) (Same.refl _))
            match ns, h3 with
            | [], _ => rfl
            | [_], _ => rfl
            | [_, _], _ => rfl
            | [_, _, _], h3 => exact absurd rfl h3
            | _ :: _ :: _ :: _ :: _, _ => rfl
          refine iteFq (by rw [decide_eq_true (by rw [h3]; rfl)]; rfl) ?_
          match ns, h3, hb3, fin, him with
          | [r, p, o], _, hb3, fin, him =>
            refine ⟨.ref b, rfl, rIx_sq hb3 (i := 0) rfl rfl ⟨.int r, 1, 12, rfl, .inl ⟨r, rfl⟩, _, rfl, ?_⟩⟩
            have e : wholeV 1 12 (.int r) = decide (1 ≤ r ∧ r ≤ 12) := (Bool.decide_and _ _).symm
            rw [e]
            have eg : goodI (some [r, p, o]) = (decide (1 ≤ r ∧ r ≤ 12) && decide (1 ≤ p ∧ p ≤ 24 ∧ 0 ≤ o ∧ o ≤ p - 1)) := rfl
            by_cases hr1 : 1 ≤ r ∧ r ≤ 12
            case neg =>
              rw [decide_eq_false hr1] at eg ⊢
              exact iteT (mkO_word (by decide) ((bad _ him eg).same s03) (Same.refl _))
            rw [decide_eq_true hr1] at eg ⊢
            refine iteF ⟨.ref b, rfl, rIx_sq hb3 (i := 1) rfl rfl ⟨.ref b, rfl, rIx_sq hb3 (i := 2) rfl rfl ⟨p, o, 24, rfl, _, rfl, ?_⟩⟩⟩
            by_cases hp1 : 1 ≤ p ∧ p ≤ 24 ∧ 0 ≤ o ∧ o ≤ p - 1
            case neg =>
              rw [decide_eq_false hp1] at eg ⊢
              exact iteT (mkO_word (by decide) ((bad _ him eg).same s03) (Same.refl _))
            rw [decide_eq_true hp1] at eg ⊢
            exact iteF (fin H3 s3 eg)
      · rintro σ H2 ⟨⟨c1, rfl⟩, s2', hp⟩
        have s2 := s1.trans s2'
        have hg : its.all goodI = true := List.all_eq_true.mpr fun it hi => by
          obtain ⟨k, hk, e⟩ := List.getElem_of_mem hi
          exact hp k it (by omega) (by rw [List.getElem?_eq_getElem hk, e])
        have q : ∀ a H', Same H H' → JobsT H' a (its.map toJ) → Q (.ref a) H' := by
          have e : chk (some its) = .ok (its.map toJ) := by
            show (if 5 < its.length then Chk.many else if its.all goodI = true then .ok (its.map toJ) else .num) = _
            rw [if_neg h5, if_pos hg]
          rw [e] at h
          exact h
        refine ⟨.ref a, rfl, a, xs, rfl, lcSeqP (T := fun i H x => ∀ it, its[i]? = some it → TupT H x (jv (toJ it))) (fun i H H' x s h it hi => (h it hi).same s) (fun D i H x us ys e _ h it hi => tup_upd e (h it hi)) (hq.same s2) (by omega) (fun D i y H3 Qk Qn hy s3 nD eD hk => ?_) (fun D H3 ts nD s3 eD pt => ?_)⟩
        · obtain ⟨it, hit, hy2⟩ := paired_get pl hy
          have hgi := List.all_eq_true.mp hg it (List.mem_of_getElem? hit)
          obtain ⟨_, ei⟩ := toJ_ok hgi
          rw [ei] at hy2
          obtain ⟨b, rfl, hb, _⟩ := hy2
          refine ⟨rfl, iteT (B := Qn H3) ⟨.ref b, rfl, tupOf (hb.same (s2.trans s3)) fun p H4 s4 e4 => hk _ H4 (fun it2 h2 => ?_) s4⟩⟩
          rw [hit] at h2
          cases h2
          exact ⟨p, rfl, e4⟩
        · refine ⟨D, ts, rfl, .inl ⟨sqL eD, fun l nl => q l _ (s2.trans (s3.trans (same_upd nl))) ⟨ts, upd_same, ?_⟩⟩⟩
          rw [List.map_map]
          exact TupsT.same (same_upd nl) (paired_map (paired_range pt lx fun i x it hi h => h it hi))
end
end K7

set_option Elab.async false
set_option linter.all false
set_option maxRecDepth 100000
set_option maxHeartbeats 4000000
namespace K7
/-! ### responses: the mathematics -/
def up (n p : Nat) : Nat := (n + p - 1) / p
theorem up_mono {n m p : Nat} (h : n ≤ m) : up n p ≤ up m p := Nat.div_le_div_right (by omega)
theorem up_one {n p : Nat} (h1 : 1 ≤ n) (h2 : n ≤ p) : up n p = 1 := by
  unfold up
  rw [show n + p - 1 = (n - 1) + p by omega, Nat.add_div_right _ (by omega), Nat.div_eq_of_lt (by omega)]
theorem le_up {n p : Nat} (hp : 1 ≤ p) : n ≤ p * up n p := by
  unfold up
  have h := Nat.lt_mul_div_succ (n + p - 1) (show 0 < p by omega)
  rw [Nat.mul_add] at h
  omega
theorem up_mul {q p : Nat} (hp : 1 ≤ p) : up (q * p) p = q := by
  unfold up
  rw [show q * p + p - 1 = (p - 1) + q * p by omega, Nat.add_mul_div_right _ _ (by omega), Nat.div_eq_of_lt (by omega)]
  omega
theorem up_pos {n p : Nat} (h1 : 1 ≤ n) (hp : 1 ≤ p) : 1 ≤ up n p := by
  have := le_up (n := n) hp
  rcases Nat.eq_zero_or_pos (up n p) with z | z
  · rw [z] at this; omega
  · exact z
theorem up_int {n p : Nat} (hp : 1 ≤ p) : (((n : Nat) : Int) + ((p : Nat) : Int) - 1).fdiv ((p : Nat) : Int) = ((up n p : Nat) : Int) := by
  rw [Int.fdiv_eq_ediv_of_nonneg _ (by omega), show ((n : Nat) : Int) + ((p : Nat) : Int) - 1 = ((n + p - 1 : Nat) : Int) by omega, ← Int.natCast_ediv]
  rfl
/-- the work of these jobs within t -/
def load (l : List Job) (t : Nat) : Nat := (l.map fun j => j.r * up t j.p).sum
theorem load_mono {l : List Job} {s t : Nat} (h : s ≤ t) : load l s ≤ load l t := by
  unfold load
  induction l with
  | nil => exact Nat.le_refl _
  | cons j l ih =>
    rw [List.map_cons, List.map_cons, List.sum_cons, List.sum_cons]
    exact Nat.add_le_add (Nat.mul_le_mul_left _ (up_mono h)) ih
def jobAt (js : List Job) (i : Nat) : Job := js.getD i default
def wk (js : List Job) (i t : Nat) : Nat := (jobAt js i).r + load (js.take i) t
theorem wk_mono {js : List Job} {i s t : Nat} (h : s ≤ t) : wk js i s ≤ wk js i t := Nat.add_le_add_left (load_mono h) _
def rowF (js : List Job) (i : Nat) : Nat → Nat → List Nat
  | 0, x => [x]
  | f + 1, x => if x ≤ (jobAt js i).p then (if wk js i x = x then [x] else x :: rowF js i f (wk js i x)) else [x]
def rowL (js : List Job) (i : Nat) : List Nat := rowF js i 30 (jobAt js i).r
def Feas (js : List Job) (i : Nat) : Prop := ∃ t, 1 ≤ t ∧ t ≤ (jobAt js i).p ∧ wk js i t ≤ t
theorem rowF_ne {js : List Job} {i : Nat} : ∀ {f x : Nat}, rowF js i f x ≠ []
  | 0, x => by simp [rowF]
  | f + 1, x => by
    rw [rowF]
    split
    · split <;> simp
    · simp
theorem rowF_last {js : List Job} {i : Nat} {j : Job} (e : jobAt js i = j) (hj : JOk j) : ∀ {f x : Nat}, 25 ≤ x + f → x ≤ wk js i x → 1 ≤ x → (∀ t, 1 ≤ t → wk js i t ≤ t → x ≤ t) →
    ∃ y, (rowF js i f x).getLast? = some y ∧ (y ≤ j.p ↔ Feas js i)
  | 0, x, hf, hw, h1, hx => by
    have := hj.p2
    refine ⟨x, rfl, fun h => by omega, fun ⟨t, t1, t2, t3⟩ => ?_⟩
    rw [e] at t2
    have := hx t t1 t3
    omega
  | f + 1, x, hf, hw, h1, hx => by
    rw [rowF, e]
    by_cases hp : x ≤ j.p
    · rw [if_pos hp]
      by_cases he : wk js i x = x
      · rw [if_pos he]
        exact ⟨x, rfl, fun _ => ⟨x, h1, by rw [e]; exact hp, by omega⟩, fun _ => hp⟩
      · rw [if_neg he]
        obtain ⟨y, hy, hl⟩ := rowF_last e hj (f := f) (x := wk js i x) (by omega) (wk_mono hw) (by omega) fun t t1 t2 => Nat.le_trans (wk_mono (hx t t1 t2)) t2
        refine ⟨y, ?_, hl⟩
        rw [List.getLast?_cons, hy]
        rfl
    · rw [if_neg hp]
      refine ⟨x, rfl, fun h => absurd h hp, fun ⟨t, t1, t2, t3⟩ => ?_⟩
      rw [e] at t2
      have := hx t t1 t3
      omega
theorem wk_ge (js : List Job) (i t : Nat) : (jobAt js i).r ≤ wk js i t := Nat.le_add_right _ _
theorem rowL_last {js : List Job} {i : Nat} (hj : JOk (jobAt js i)) : ∃ y, (rowL js i).getLast? = some y ∧ (y ≤ (jobAt js i).p ↔ Feas js i) := by
  have := hj.r1
  exact rowF_last rfl hj (by omega) (wk_ge _ _ _) hj.r1 fun t _ h => Nat.le_trans (wk_ge js i t) h
theorem jobAt_get {js : List Job} {i : Nat} {j : Job} (h : js[i]? = some j) : jobAt js i = j := by
  unfold jobAt
  rw [List.getD_eq_getElem?_getD, h]
  rfl
end K7

set_option Elab.async false
set_option linter.all false
set_option maxRecDepth 100000
set_option maxHeartbeats 4000000
namespace K7
open PySem PySem.Spec PyProof.Rows L2 GX NdefX
def spUp : Sp := fun vs H Q _ => ∃ n p : Nat, vs = [.int n, .int p] ∧ 1 ≤ p ∧ p < 1000 ∧ Q (.int (up n p : Nat)) H
def spRow : Sp := fun vs H Q _ => ∃ (a : Addr) (js : List Job) (i : Nat), vs = [.ref a, .int i] ∧ JobsT H a js ∧ (∀ j ∈ js, JOk j) ∧ i < js.length ∧ js.length ≤ 5 ∧
  ∀ D H', Same H H' → H D = none → H' D = some (.lst (nts (rowL js i))) → Q (.ref D) H'
theorem jobs_got {H : Hp} {ts : List V} {js : List Job} (p : TupsT H ts (js.map jv)) {i : Nat} {x : V} (h : ts[i]? = some x) : ∃ j a, js[i]? = some j ∧ x = .ref a ∧ H a = some (.tup (jv j)) := by
  obtain ⟨vs, a, hv, e, ha⟩ := tups_got p h
  rw [List.getElem?_map] at hv
  obtain ⟨j, hj, rfl⟩ := Option.map_eq_some_iff.mp hv
  exact ⟨j, a, hj, e, ha⟩
theorem jobs_at {H : Hp} {ts : List V} {js : List Job} (p : TupsT H ts (js.map jv)) {i : Nat} (h : i < js.length) : ∃ a, ts[i]? = some (.ref a) ∧ js[i]? = some (jobAt js i) ∧ H a = some (.tup (jv (jobAt js i))) := by
  have hl : ts.length = js.length := by have := p.length; rw [List.length_map] at this; exact this
  obtain ⟨j, a, hj, e, ha⟩ := jobs_got p (List.getElem?_eq_getElem (show i < ts.length by omega))
  rw [jobAt_get hj]
  exact ⟨a, by rw [List.getElem?_eq_getElem (show i < ts.length by omega), e], hj, ha⟩
theorem nts_app (l m : List Nat) : nts (l ++ m) = nts l ++ nts m := List.map_append
theorem sum_nat (l : List Nat) : ((nts l).length = l.length) ∧ (l.map fun (n : Nat) => (n : Int)).sum = ((l.sum : Nat) : Int) := by
  refine ⟨List.length_map _, ?_⟩
  induction l with
  | nil => rfl
  | cons n l ih => rw [List.map_cons, List.sum_cons, List.sum_cons, ih]; omega
theorem nts_ints (l : List Nat) : nts l = (l.map fun (n : Nat) => (n : Int)).map V.int := by
  unfold nts
  rw [List.map_map]
  rfl
theorem loadl (js : List Job) (n t : Nat) : ∀ (l : List V), l = ((js.take n).map fun j => V.int ((j.r * up t j.p : Nat) : Int)) → l = (((js.take n).map fun j => ((j.r * up t j.p : Nat) : Int)).map V.int) := fun l h => by rw [h, List.map_map]; rfl
theorem load_sum (l : List Job) (t : Nat) : (l.map fun j => ((j.r * up t j.p : Nat) : Int)).sum = ((load l t : Nat) : Int) := by
  unfold load
  induction l with
  | nil => rfl
  | cons j l ih => rw [List.map_cons, List.map_cons, List.sum_cons, List.sum_cons, ih]; omega
theorem up_le {n p : Nat} (hp : 1 ≤ p) : up n p ≤ n := by
  unfold up
  rcases Nat.eq_zero_or_pos n with z | z
  · subst z; rw [Nat.div_eq_of_lt (by omega)]; exact Nat.le_refl _
  · refine Nat.le_trans (Nat.div_le_div_right (c := p) (show n + p - 1 ≤ n * p by
      have : n * p = (n - 1) * p + p := by
        rw [Nat.sub_mul, Nat.one_mul, Nat.sub_add_cancel (Nat.le_mul_of_pos_left p z)]
      have h2 : n - 1 ≤ (n - 1) * p := Nat.le_mul_of_pos_right _ hp
      omega)) ?_
    rw [Nat.mul_div_cancel _ (by omega)]
    exact Nat.le_refl _
section
variable {P : Program} {w : World} {K : PySem.W.Frag} {mg : Str → Option Value} {base : Heap}
theorem ok_rounded {k : Nat} (D : Pr P K mg) : FnOk P w K mg base CX0 (k + 1) D._rounded_up.f D._rounded_up.fd ["number", "other"] spUp := by
  refine D._rounded_up.F.ok sc__rounded_up (fun vs H Q E h => ?_) (fun cdv A outer s H vs Q E hr h => ?_)
  · obtain ⟨n, p, rfl, _⟩ := h
    rfl
  · obtain ⟨n, p, rfl, hp, hp2, q⟩ := h
    refine ⟨_, (pss_one (ps_ret (pe_op op_fdivN (pe_op op_sub (pe_op op_add (pv 0) (pv 1)) pe_int) (pv 1)))), ?_⟩
    refine ⟨.int n, rfl, .int p, rfl, _, _, rfl, rfl, _, _, rfl, rfl, .int p, rfl, _, p, rfl, rfl, ⟨by omega, by omega⟩, ?_⟩
    have e := up_int (n := n) hp
    show Q (.int ((((n : Nat) : Int) + ((p : Nat) : Int) - 1).fdiv ((p : Nat) : Int))) H
    rw [e]
    exact q
theorem ok_row {k : Nat} (D : Pr P K mg) : FnOk P w K mg base CX0 (k + 2) D._row.f D._row.fd ["jobs", "place"] spRow := by
  have G__rounded_up : FnOk P w K mg base CX0 (k + 1) D._rounded_up.f D._rounded_up.fd ["number", "other"] spUp := ok_rounded D
  refine D._row.F.ok sc__row (fun vs H Q E h => ?_) (fun cdv A outer s H vs Q E hr h => ?_)
  · obtain ⟨a, js, i, rfl, _⟩ := h
    rfl
  · obtain ⟨a, js, i, rfl, ⟨ts, ha, pt⟩, hok, hi, hl, q⟩ := h
    refine ⟨_, (pss_cons (ps_asg (pe_ix (r := rIxT K) ix_tup (pv 0) (pv 1) (fun _ _ => rfl)) (pg_tup rfl (pgs_cons (pg_name (i := 2) sc__row.nd rfl (.inl rfl)) (pgs_cons (pg_name (i := 3) sc__row.nd rfl (.inl rfl)) (pgs_cons (pg_name (i := 4) sc__row.nd rfl (.inl rfl)) pgs_nil)))))
      (pss_cons (ps_set (i := 5) sc__row.nd rfl (.inr rfl) (pe_lst (pa_cons (pv 2) pa_nil)))
      (pss_cons (ps_while PassesOwn.never (pt_cmpR op_le (pe_ix (r := rIxL K) ix_list (pv 5) (pe_un un_neg pe_int) (fun _ _ => rfl)) (pv 3) (nomark _)) (pss_cons (ps_set (i := 6) sc__row.nd rfl (.inl rfl) (pe_op op_add (pv 2) (pe_callB (cr_sum rfl) (by rfl) D.B.sum (by decide +kernel) (pa_cons (pe_lc (own := [("many", 7), ("each", 8), ("_", 4)]) (g := (gTup K 3 (gCons (gName 7) (gCons (gName 8) (gCons (gName 4) gNil))))) (tt := tYes) rfl sc__row.nd (pi_tup (pe_slice sl_tupA (pv 0) po_none (po_some (pv 1)))) (blkOk_by (own := [("many", 7), ("each", 8), ("_", 4)]) (N := n__row) (sc := defScope s__row) (by decide +kernel)) (fun _ _ _ _ _ => (pg_tup rfl (pgs_cons (pg_name (i := 7) sc__row.nd rfl (.inl rfl)) (pgs_cons (pg_name (i := 8) sc__row.nd rfl (.inl rfl)) (pgs_cons (pg_name (i := 4) sc__row.nd rfl (.inl rfl)) pgs_nil))))) (fun _ _ _ _ _ => pts_nil) (fun _ _ _ _ _ => (pe_mul (pv 7) (pe_call G__rounded_up hr (by rfl) D._rounded_up.g D._rounded_up.F.kp D._rounded_up.b .nil pass0 (pa_cons (pe_ix (r := rIxL K) ix_list (pv 5) (pe_un un_neg pe_int) (fun _ _ => rfl)) (pa_cons (pv 8) pa_nil)))))) pa_nil)))) (pss_cons (ps_if (pt_cmpR op_eq (pv 6) (pe_ix (r := rIxL K) ix_list (pv 5) (pe_un un_neg pe_int) (fun _ _ => rfl)) (nomark _)) (pss_one ps_break) pss_nil) (pss_one (ps_expr (pe_bm PySem.F.plainAttrs_list PySem.F.slot_list_append PySem.F.type_list_append mt_append (pv 5) (pa_cons (pv 6) pa_nil)))))))
      (pss_one (ps_ret (pv 5)))))), ?_⟩
    obtain ⟨b, hb, hj, hbe⟩ := jobs_at pt hi
    have jok := hok _ (List.mem_of_getElem? hj)
    refine ⟨.ref a, rfl, .int i, rfl, a, ts, i, .ref b, rfl, rfl, sqT ha, atI_nat hb, b, _, rfl, sqT hbe, rfl, _, _, rfl, _, _, rfl, _, _, rfl, rfl, ?_⟩
    generalize ej : jobAt js i = j at hbe jok ⊢
    refine ⟨_, rfl, by show 1 ≤ sizeLine; decide, fun R nR => ?_⟩
    refine ⟨fun m σ H' => ∃ c6 c7 c8 c4 pre x, σ = [some (.ref a), some (.int i), some (.int (j.r : Nat)), some (.int (j.p : Nat)), c4, some (.ref R), c6, c7, c8] ∧ Same H H' ∧ H' R = some (.lst (nts (pre ++ [x]))) ∧ pre ++ rowF js i m x = rowL js i ∧ pre.length + m = 30 ∧ 25 ≤ x + m ∧ x ≤ wk js i x ∧ x < 100000,
      ⟨30, _, _, _, _, [], j.r, rfl, same_upd nR, upd_same, by rw [rowL, ej]; rfl, rfl, by omega, by rw [← ej]; exact wk_ge _ _ _, by have := jok.r2; omega⟩, ?_⟩
    rintro m σ H1 ⟨c6, c7, c8, c4, pre, x, rfl, s1, eR, hrow, hpm, hxm, hwx, hx5⟩
    have hend : atI (nts (pre ++ [x])) (-1) = some (.int (x : Nat)) := by
      rw [nts_app]
      exact atI_end _ _
    refine ⟨.ref R, rfl, 1, rfl, R, _, _, _, rfl, rfl, sqL eR, hend, .int (j.p : Nat), rfl, _, _, rfl, rfl, _, rfl, ?_⟩
    by_cases hp : x ≤ j.p
    case neg =>
      rw [decide_eq_false (by omega)]
      refine iteFq rfl ⟨.ref R, rfl, q R H1 s1 nR ?_⟩
      rw [eR]
      have : rowF js i m x = [x] := by
        cases m with
        | zero => rfl
        | succ m => rw [rowF, ej, if_neg hp]
      rw [this] at hrow
      rw [hrow]
    rw [decide_eq_true (by omega)]
    obtain ⟨m, rfl⟩ : ∃ m', m = m' + 1 := ⟨m - 1, by have := jok.p2; omega⟩
    rw [rowF, ej, if_pos hp] at hrow
    refine iteTq rfl ⟨_, fun σ' H' h => ⟨m, Nat.lt_succ_self m, h⟩, ?_⟩
    -- the sum
    refine ⟨_, rfl, .ref a, rfl, .int i, rfl, (i : Nat), rfl, slA (s1 _ _ ha) fun S H2 s2 e2 => ?_⟩
    rw [cut_to] at e2
    refine ⟨S, rfl, ⟨_, sqT e2⟩, ?_⟩
    have s02 := s1.trans s2
    have hwle : wk js i x < 100000 := by
      have hb : ∀ l : List Job, (∀ j ∈ l, JOk j) → load l x ≤ l.length * (12 * x) := fun l => by
        induction l with
        | nil => intro _; exact Nat.zero_le _
        | cons j l ih =>
          intro h
          have h1 := ih fun j hj => h j (List.mem_cons_of_mem _ hj)
          have h2 : load (j :: l) x = j.r * up x j.p + load l x := by unfold load; rw [List.map_cons, List.sum_cons]
          have h3 := h j List.mem_cons_self
          have h4 : j.r * up x j.p ≤ 12 * x := Nat.mul_le_mul h3.r2 (up_le h3.p1)
          rw [h2, List.length_cons, Nat.succ_mul]
          omega
      have h1 := hb (js.take i) fun j hj => hok j (List.mem_of_mem_take hj)
      have h2 : (js.take i).length * (12 * x) ≤ 5 * (12 * 24) := Nat.mul_le_mul (by rw [List.length_take]; omega) (by have := jok.p2; omega)
      have h3 : wk js i x = j.r + load (js.take i) x := by unfold wk; rw [ej]
      have := jok.r2
      omega
    refine lcTup (xs := ts.take i) (fun n H y => ∀ j', (js.take i)[n]? = some j' → y = .int ((j'.r * up x j'.p : Nat) : Int)) (fun _ _ _ _ _ h => h) (fun _ _ _ _ _ _ _ _ h => h) e2 (by rw [List.length_take]; have := pt.length; rw [List.length_map] at this; omega) (fun Dl n y H3 Qk Qn hy s3 nDl eDl hk => ?_) (fun Dl H3 us nDl s3 eDl pu => ?_)
    · have pt3 := (paired_take (TupsT.same (s02.trans s3) pt) i).1
      rw [← List.map_take] at pt3
      obtain ⟨j', b', hj', rfl, hb'⟩ := jobs_got pt3 hy
      have ok' := hok j' (List.mem_of_mem_take (List.mem_of_getElem? hj'))
      have := ok'.r2; have := ok'.p1; have := ok'.p2
      refine ⟨b', _, rfl, sqT hb', rfl, _, _, rfl, _, _, rfl, _, _, rfl, rfl, rfl, ?_⟩
      refine iteT (B := Qn H3) ⟨_, rfl, .ref R, rfl, 1, rfl, R, _, _, _, rfl, rfl, sqL (s3 _ _ (s2 _ _ eR)), hend, _, rfl, x, j'.p, rfl, by omega, by omega, _, _, rfl, rfl, ⟨by omega, by omega⟩, ?_⟩
      refine hk _ H3 (fun j2 h2 => ?_) (Same.refl _)
      rw [hj'] at h2
      cases h2
      rw [Int.natCast_mul]
    · have lt : (ts.take i).length = (js.take i).length := by
        have := pt.length
        rw [List.length_map] at this
        rw [List.length_take, List.length_take, this]
      have eu : us = (js.take i).map fun j' => V.int ((j'.r * up x j'.p : Nat) : Int) := paired_eq (paired_range pu lt fun n y j' hj' h => h j' hj')
      have eu2 := loadl js i x us eu
      rw [eu2] at eDl
      have eW : ((j.r : Nat) : Int) + ((load (js.take i) x : Nat) : Int) = ((wk js i x : Nat) : Int) := by unfold wk; rw [ej]; omega
      refine ⟨Dl, _, rfl, sqL eDl, _, ((load (js.take i) x : Nat) : Int), rfl, congrArg V.int (load_sum _ _), ?_⟩
      have s03 := s02.trans s3
      have eR3 := s3 _ _ (s2 _ _ eR)
      refine ⟨_, rfl, .ref R, rfl, 1, rfl, R, _, _, _, rfl, rfl, sqL eR3, hend, rfl, _, rfl, ?_⟩
      by_cases he : wk js i x = x
      · rw [if_pos he] at hrow
        refine iteTq (decide_eq_true (congrArg V.int (eW.trans (by rw [he])))) ⟨.ref R, rfl, q R H3 s03 nR ?_⟩
        rw [eR3, hrow]
      · rw [if_neg he] at hrow
        refine iteFq (decide_eq_false fun z => he (by have z := V.int.inj z; rw [eW] at z; omega)) ⟨.ref R, rfl, .inl ⟨rfl, _, sqL eR3⟩, _, rfl, R, _, _, rfl, rfl, eR3, by rw [nts_len, List.length_append, List.length_singleton, sizeLine_eq]; omega, ?_⟩
        refine ⟨_, _, _, _, pre ++ [x], wk js i x, rfl, fun b o e => ?_, ?_, ?_, ?_, ?_, wk_mono hwx, hwle⟩
        · rw [upd_ne (ne_of_none e nR)]
          exact s03 _ _ e
        · rw [upd_same, nts_app (pre ++ [x])]
          exact congrArg (fun z => some (HO.lst (nts (pre ++ [x]) ++ [V.int z]))) eW
        · rw [List.append_assoc]
          exact hrow
        · rw [List.length_append, List.length_singleton]
          omega
        · omega
end
end K7

set_option Elab.async false
set_option linter.all false
set_option maxRecDepth 100000
set_option maxHeartbeats 4000000
namespace K7
/-! ### the sum of rungs / period, in lowest terms; the order by periods: the mathematics -/
def frN : List Job → Nat × Nat → Nat × Nat
  | [], x => x
  | j :: l, (n, d) => frN l (n * j.p + j.r * d, d * j.p)
def frac (js : List Job) : Nat × Nat := frN js (0, 1)
theorem frN_app (l m : List Job) (x : Nat × Nat) : frN (l ++ m) x = frN m (frN l x) := by
  induction l generalizing x with
  | nil => rfl
  | cons j l ih => obtain ⟨n, d⟩ := x; exact ih _
theorem frac_snoc (l : List Job) (j : Job) : frac (l ++ [j]) = ((frac l).1 * j.p + j.r * (frac l).2, (frac l).2 * j.p) := by
  unfold frac
  rw [frN_app]
  rfl
def low (x : Nat × Nat) : Nat × Nat := (x.1 / Nat.gcd x.1 x.2, x.2 / Nat.gcd x.1 x.2)
theorem low_step {x : Nat × Nat} (hx : 1 ≤ x.2) {p r : Nat} (hp : 1 ≤ p) : low (x.1 * p + r * x.2, x.2 * p) = low ((low x).1 * p + r * (low x).2, (low x).2 * p) := by
  obtain ⟨n, d⟩ := x
  have hg : 0 < Nat.gcd n d := Nat.gcd_pos_of_pos_right _ hx
  obtain ⟨a, ha⟩ := Nat.gcd_dvd_left n d
  obtain ⟨b, hb⟩ := Nat.gcd_dvd_right n d
  generalize hG : Nat.gcd n d = g at hg ha hb
  have e1 : (low (n, d)) = (a, b) := by
    show (n / Nat.gcd n d, d / Nat.gcd n d) = (a, b)
    rw [hG, ha, hb, Nat.mul_div_cancel_left _ hg, Nat.mul_div_cancel_left _ hg]
  rw [e1]
  show low (n * p + r * d, d * p) = low (a * p + r * b, b * p)
  have e2 : n * p + r * d = g * (a * p + r * b) := by
    rw [ha, hb, Nat.mul_add, ← Nat.mul_assoc, ← Nat.mul_assoc, ← Nat.mul_assoc, Nat.mul_comm r g]
  have e3 : d * p = g * (b * p) := by rw [hb, Nat.mul_assoc]
  rw [e2, e3]
  show (_ / Nat.gcd _ _, _ / Nat.gcd _ _) = (_ / Nat.gcd _ _, _ / Nat.gcd _ _)
  rw [Nat.gcd_mul_left, Nat.mul_div_mul_left _ _ hg, Nat.mul_div_mul_left _ _ hg]
theorem low_le (x : Nat × Nat) : (low x).1 ≤ x.1 ∧ (low x).2 ≤ x.2 := ⟨Nat.div_le_self _ _, Nat.div_le_self _ _⟩
theorem low_pos {x : Nat × Nat} (h : 1 ≤ x.2) : 1 ≤ (low x).2 := Nat.div_pos (Nat.le_of_dvd h (Nat.gcd_dvd_right _ _)) (Nat.gcd_pos_of_pos_right _ h)
theorem frac_pos {l : List Job} (h : ∀ j ∈ l, JOk j) : ∀ {x : Nat × Nat}, 1 ≤ x.2 → 1 ≤ (frN l x).2 := by
  induction l with
  | nil => exact id
  | cons j l ih =>
    intro x hx
    obtain ⟨n, d⟩ := x
    exact ih (fun j hj => h j (List.mem_cons_of_mem _ hj)) (Nat.mul_pos hx (h j List.mem_cons_self).p1)
theorem frac_le {l : List Job} (h : ∀ j ∈ l, JOk j) : ∀ {x : Nat × Nat} {k : Nat}, x.1 ≤ 12 * k * 24 ^ k → x.2 ≤ 24 ^ k → (frN l x).1 ≤ 12 * (k + l.length) * 24 ^ (k + l.length) ∧ (frN l x).2 ≤ 24 ^ (k + l.length) := by
  induction l with
  | nil => exact fun h1 h2 => ⟨h1, h2⟩
  | cons j l ih =>
    intro x k h1 h2
    obtain ⟨n, d⟩ := x
    have hj := h j List.mem_cons_self
    have e : k + (j :: l).length = k + 1 + l.length := by rw [List.length_cons]; omega
    rw [e]
    refine ih (fun j hj => h j (List.mem_cons_of_mem _ hj)) ?_ ?_
    · show n * j.p + j.r * d ≤ _
      have h3 : n * j.p ≤ 12 * k * 24 ^ k * 24 := Nat.mul_le_mul h1 hj.p2
      have h4 : j.r * d ≤ 12 * 24 ^ k := Nat.mul_le_mul hj.r2 h2
      have h5 : 12 * (k + 1) * 24 ^ (k + 1) = 12 * k * 24 ^ k * 24 + 12 * 24 ^ k * 24 := by
        rw [Nat.pow_succ, Nat.mul_add, Nat.mul_one, Nat.add_mul, ← Nat.mul_assoc, ← Nat.mul_assoc]
      omega
    · show d * j.p ≤ 24 ^ (k + 1)
      rw [Nat.pow_succ]
      exact Nat.mul_le_mul h2 hj.p2
def pairsOf (js : List Job) : List (Nat × Nat) := (List.range js.length).map fun i => ((jobAt js i).p, i)
def byP (js : List Job) : List Nat := (sortP (pairsOf js)).map (·.2)
theorem byP_perm (js : List Job) : (byP js).Perm (List.range js.length) := by
  have h := (sortP_perm (pairsOf js)).map (·.2)
  have e : (pairsOf js).map (·.2) = List.range js.length := by
    unfold pairsOf
    rw [List.map_map]
    exact List.map_id _
  rw [e] at h
  exact h
theorem byP_eq {js : List Job} {ks : List Nat} (p : ks.Perm (List.range js.length)) (s : ks.Pairwise fun a b => (jobAt js a).p < (jobAt js b).p ∨ ((jobAt js a).p = (jobAt js b).p ∧ a ≤ b)) : ks = byP js := by
  have h : ks.map (fun i => ((jobAt js i).p, i)) = sortP (pairsOf js) := sortP_eq (p.map _) (List.pairwise_map.mpr (s.imp fun h => decide_eq_true h))
  unfold byP
  rw [← h, List.map_map]
  exact (List.map_id _).symm
theorem byP_sorted (js : List Job) : (byP js).Pairwise fun a b => (jobAt js a).p ≤ (jobAt js b).p := by
  unfold byP
  rw [List.pairwise_map]
  refine (List.Pairwise.and_mem.mp (sortP_sorted (pairsOf js))).imp fun {x y} h => ?_
  obtain ⟨hx, hy, hl⟩ := h
  have mem : ∀ x, x ∈ sortP (pairsOf js) → x.1 = (jobAt js x.2).p := fun x hx => by
    have := (sortP_perm _).mem_iff.mp hx
    unfold pairsOf at this
    obtain ⟨i, _, rfl⟩ := List.mem_map.mp this
    rfl
  unfold leP at hl
  rw [decide_eq_true_iff, mem x hx, mem y hy] at hl
  omega
end K7

set_option Elab.async false
set_option linter.all false
set_option maxRecDepth 100000
set_option maxHeartbeats 4000000
namespace K7
open PySem PySem.Spec PyProof.Rows L2 GX NdefX
theorem Chkd.imp {CN CM : Addr} {E : XK} {H H1 : Hp} {A B : List Job → Prop} {c : Chk} (h : Chkd CN CM E H A c) (s : Same H H1) (k : ∀ js, c = .ok js → A js → B js) : Chkd CN CM E H1 B c := by
  cases c with
  | num => exact Rai.same h s
  | many => exact Rai.same h s
  | ok js => exact k js rfl h
def AllF (js : List Job) : Prop := ∀ i, i < js.length → Feas js i
def spNever (CN CM : Addr) : Sp := fun vs H Q E => ∃ x j, vs = [x] ∧ JbAt H x j ∧ Chkd CN CM E H (fun js => ∀ H' b, Same H H' → (b = true ↔ AllF js) → Q (.bl b) H') (chk j)
def spByP (CN CM : Addr) : Sp := fun vs H Q E => ∃ x j, vs = [x] ∧ JbAt H x j ∧ Chkd CN CM E H (fun js => ∀ a H', Same H H' → H' a = some (.tup (nts (byP js))) → Q (.ref a) H') (chk j)
def spLoad (CN CM : Addr) : Sp := fun vs H Q E => ∃ x j, vs = [x] ∧ JbAt H x j ∧ Chkd CN CM E H (fun js => ∀ a H', Same H H' → H' a = some (.tup [.int ((low (frac js)).1 : Nat), .int ((low (frac js)).2 : Nat)]) → Q (.ref a) H') (chk j)
open Classical in
noncomputable def feasB (js : List Job) (i : Nat) : Bool := decide (Feas js i)
open Classical in
theorem feasB_iff {js : List Job} {i : Nat} : feasB js i = true ↔ Feas js i := by
  unfold feasB
  exact decide_eq_true_iff
theorem jt_len {H : Hp} {ts : List V} {js : List Job} (p : TupsT H ts (js.map jv)) : ts.length = js.length := by
  have := p.length
  rw [List.length_map] at this
  exact this
section
variable {P : Program} {w : World} {K : PySem.W.Frag} {mg : Str → Option Value} {base : Heap}
theorem ok_never {k : Nat} (D : Pr P K mg) : FnOk P w K mg base (CX P w) (k + 4) D.never_misses.f D.never_misses.fd ["jobs"] (spNever D.BadNumber.C D.TooMany.C) := by
  have G_check_jobs : FnOk P w K mg base (CX P w) (k + 3) D.check_jobs.f D.check_jobs.fd ["jobs"] (spCheck D.BadNumber.C D.TooMany.C) := ok_check_jobs D
  have G__row : FnOk P w K mg base CX0 (k + 2) D._row.f D._row.fd ["jobs", "place"] spRow := ok_row D
  refine D.never_misses.F.okX sc_never_misses (fun vs H Q E h => ?_) (fun cdv A outer s H vs Q E hr h => ?_)
  · obtain ⟨x, j, rfl, _⟩ := h
    rfl
  · obtain ⟨x, j, rfl, hj, h⟩ := h
    refine ⟨_, (pss_cons (ps_set (i := 1) sc_never_misses.nd rfl (.inr rfl) (pe_call G_check_jobs hr (by rfl) D.check_jobs.g D.check_jobs.F.kp D.check_jobs.b .nil (passes_call (takes_of rfl rfl rfl rfl) (fun _ _ _ _ h => h)) (pa_cons (pv 0) pa_nil)))
      (pss_one (ps_ret (pe_callB (cr_all rfl) (by rfl) D.B.all (by decide +kernel) (pa_cons (pe_lc (own := [("place", 2)]) (g := (gName 2)) (tt := tYes) rfl sc_never_misses.nd (pi_range1 (by rfl) D.B.range (pa_cons (pe_callB call_len (by rfl) D.B.len PySem.boot_len (pa_cons (pv 1) pa_nil)) pa_nil)) (blkOk_by (own := [("place", 2)]) (N := n_never_misses) (sc := defScope s_never_misses) (by decide +kernel)) (fun _ _ _ _ _ => (pg_name (i := 2) sc_never_misses.nd rfl (.inl rfl))) (fun _ _ _ _ _ => pts_nil) (fun _ _ _ _ _ => (pe_cmpR op_le (pe_ix (r := rIxL K) ix_list (pe_call G__row (hr.mono (by omega)) (by rfl) D._row.g D._row.F.kp D._row.b .nil pass0 (pa_cons (pv 1) (pa_cons (pv 2) pa_nil))) (pe_un un_neg pe_int) (fun _ _ => rfl)) (pe_ix (r := rIxT K) ix_tup (pe_ix (r := rIxT K) ix_tup (pv 1) (pv 2) (fun _ _ => rfl)) pe_int (fun _ _ => rfl)) (nomark _)))) pa_nil))))), ?_⟩
    refine ⟨x, rfl, x, j, rfl, hj, h.imp (Same.refl _) fun js ec q a H1 s1 jt => ?_⟩
    obtain ⟨hl, hok⟩ := chk_ok ec
    obtain ⟨ts, ha, pt⟩ := id jt
    refine ⟨.ref a, rfl, .ref a, js.length, rfl, .inr ⟨_, sqT ha, (jt_len pt).symm⟩, (js.length : Int), rfl, by omega, by omega, ?_⟩
    refine lcRngP (n := js.length) (fun i H y => y = .bl (feasB js i)) (fun _ _ _ _ _ h => h) (fun _ _ _ _ _ _ _ _ h => h) (by omega) (fun Dl i H2 Qk Qn hi s2 nDl eDl hk => ?_) (fun Dl H2 us nDl s2 eDl pu => ?_)
    · refine ⟨rfl, iteT (B := Qn H2) ⟨.ref a, rfl, .int i, rfl, a, js, i, rfl, jt.same s2, hok, hi, hl, fun R H3 s3 nR eR => ?_⟩⟩
      obtain ⟨y, hy, hf⟩ := rowL_last (js := js) (i := i) (hok _ (List.mem_of_getElem? (jobs_at pt hi).choose_spec.2.1))
      obtain ⟨b, hb, hj', hbe⟩ := jobs_at (pt.same (s2.trans s3)) hi
      refine ⟨1, rfl, R, _, _, _, rfl, rfl, sqL eR, atI_lastN hy, .ref a, rfl, .int i, rfl, a, ts, i, .ref b, rfl, rfl, sqT (s3 _ _ (s2 _ _ ha)), atI_nat hb, b, _, 1, .int ((jobAt js i).p : Nat), rfl, rfl, sqT hbe, atI_nat (j := 1) rfl, _, _, rfl, rfl, hk _ H3 ?_ s3⟩
      show V.bl (decide ((y : Int) ≤ ((jobAt js i).p : Nat))) = V.bl (feasB js i)
      refine congrArg V.bl (Bool.eq_iff_iff.mpr ?_)
      rw [feasB_iff, decide_eq_true_iff]
      exact ⟨fun z => hf.mp (by omega), fun z => by have := hf.mpr z; omega⟩
    · have e : us = ((List.range js.length).map (feasB js)).map V.bl := by
        rw [List.map_map]
        exact paired_eq pu
      rw [e] at eDl
      refine ⟨Dl, _, rfl, sqL eDl, q H2 _ (s1.trans s2) ?_⟩
      rw [List.all_map, List.all_eq_true]
      refine ⟨fun z i hi => ?_, fun z i hi => ?_⟩
      · exact feasB_iff.mp (z i (List.mem_range.mpr hi))
      · exact feasB_iff.mpr (z i (List.mem_range.mp hi))
theorem ok_byP {k : Nat} (D : Pr P K mg) : FnOk P w K mg base (CX P w) (k + 4) D.by_periods.f D.by_periods.fd ["jobs"] (spByP D.BadNumber.C D.TooMany.C) := by
  have G_check_jobs : FnOk P w K mg base (CX P w) (k + 3) D.check_jobs.f D.check_jobs.fd ["jobs"] (spCheck D.BadNumber.C D.TooMany.C) := ok_check_jobs D
  refine D.by_periods.F.okX sc_by_periods (fun vs H Q E h => ?_) (fun cdv A outer s H vs Q E hr h => ?_)
  · obtain ⟨x, j, rfl, _⟩ := h
    rfl
  · obtain ⟨x, j, rfl, hj, h⟩ := h
    refine ⟨_, (pss_cons (ps_set (i := 1) sc_by_periods.nd rfl (.inl rfl) (pe_call G_check_jobs hr (by rfl) D.check_jobs.g D.check_jobs.F.kp D.check_jobs.b .nil (passes_call (takes_of rfl rfl rfl rfl) (fun _ _ _ _ h => h)) (pa_cons (pv 0) pa_nil)))
      (pss_cons (ps_set (i := 2) sc_by_periods.nd rfl (.inl rfl) (pe_callB cr_sortedPO (by rfl) D.B.sorted (by decide +kernel) (pa_cons (pe_lc (own := [("place", 3), ("_", 4), ("period", 5)]) (g := (gTup K 2 (gCons (gName 3) (gCons (gTup K 3 (gCons (gName 4) (gCons (gName 5) (gCons (gName 4) gNil)))) gNil)))) (tt := tYes) rfl sc_by_periods.nd (pi_enumA (by rfl) D.B.enumerate (pa_cons (pv 1) pa_nil)) (blkOk_by (own := [("place", 3), ("_", 4), ("period", 5)]) (N := n_by_periods) (sc := defScope s_by_periods) (by decide +kernel)) (fun _ _ _ _ _ => (pg_tup rfl (pgs_cons (pg_name (i := 3) sc_by_periods.nd rfl (.inl rfl)) (pgs_cons (pg_tup rfl (pgs_cons (pg_name (i := 4) sc_by_periods.nd rfl (.inl rfl)) (pgs_cons (pg_name (i := 5) sc_by_periods.nd rfl (.inl rfl)) (pgs_cons (pg_name (i := 4) sc_by_periods.nd rfl (.inl rfl)) pgs_nil)))) pgs_nil)))) (fun _ _ _ _ _ => pts_nil) (fun _ _ _ _ _ => (pe_tup (pa_cons (pv 5) (pa_cons (pv 3) pa_nil))))) pa_nil)))
      (pss_one (ps_ret (pe_callTy call_tuple_of (by rfl) D.B.tuple (by decide +kernel) (pa_cons (pe_lc (own := [("_", 4), ("place", 3)]) (g := (gTup K 2 (gCons (gName 4) (gCons (gName 3) gNil)))) (tt := tYes) rfl sc_by_periods.nd (pi_list (pv 2)) (blkOk_by (own := [("_", 4), ("place", 3)]) (N := n_by_periods) (sc := defScope s_by_periods) (by decide +kernel)) (fun _ _ _ _ _ => (pg_tup rfl (pgs_cons (pg_name (i := 4) sc_by_periods.nd rfl (.inl rfl)) (pgs_cons (pg_name (i := 3) sc_by_periods.nd rfl (.inl rfl)) pgs_nil)))) (fun _ _ _ _ _ => pts_nil) (fun _ _ _ _ _ => (pv 3))) pa_nil)))))), ?_⟩
    refine ⟨x, rfl, x, j, rfl, hj, h.imp (Same.refl _) fun js ec q a H1 s1 jt => ?_⟩
    obtain ⟨hl, hok⟩ := chk_ok ec
    obtain ⟨ts, ha, pt⟩ := id jt
    have lts := jt_len pt
    refine ⟨.ref a, rfl, a, ts, rfl, .inr ⟨sqT ha, lcEnT (fun i H y => TupT H y [.int ((jobAt js i).p : Nat), .int (i : Nat)]) (fun i H H' x s h => h.same s) (fun D i H x us ys e _ h => tup_upd e h) ha (by omega) (fun Dl i y U H2 Qk Qn hy s2 nDl eDl nU hk => ?_) (fun Dl H2 us nDl s2 eDl pu => ?_)⟩⟩
    · obtain ⟨j', b, hj', rfl, hb⟩ := jobs_got (pt.same s2) hy
      have sU := same_upd nU (o := .tup [.int (i : Nat), .ref b])
      refine ⟨U, _, rfl, sqT upd_same, rfl, _, _, rfl, _, _, rfl, b, _, rfl, sqT (sU _ _ hb), rfl, _, _, rfl, _, _, rfl, _, _, rfl, rfl, rfl, rfl, ?_⟩
      refine iteT (B := Qn (upd H2 U (.tup [.int (i : Nat), .ref b]))) ⟨_, rfl, _, rfl, by show 2 ≤ sizeLine; decide, fun W nW => hk _ (upd (upd H2 U (.tup [.int (i : Nat), .ref b])) W (.tup [.int (j'.p : Nat), .int (i : Nat)])) ⟨W, rfl, ?_⟩ (sU.trans (same_upd nW))⟩
      rw [upd_same, jobAt_get hj']
    · have pp : PairsAt H2 us (pairsOf js) := by
        rw [lts] at pu
        refine paired_map (g := fun i => ((jobAt js i).p, i)) ?_
        exact paired_imp (fun x i h => h) pu
      refine ⟨Dl, us, kOf H2, rfl, sqL eDl, fun x hx => ?_, fun ys p st sb np => ?_⟩
      · obtain ⟨T, e1, e2⟩ := pairs_mem pp x hx
        subst e1
        exact ⟨T, rfl, by rw [kOf_pair e2]; exact e2⟩
      · have s3 := same_upd np (o := .lst ys)
        have py := (sorted_pairs pp st sb).same s3
        have ly : ys.length = js.length := by rw [py.length, (sortP_perm _).length_eq]; unfold pairsOf; rw [List.length_map, List.length_range]
        refine ⟨.ref p, rfl, p, rfl, ⟨_, sqL upd_same⟩, lcLst (fun i H y => ∀ z, (sortP (pairsOf js))[i]? = some z → y = .int (z.2 : Nat)) (fun _ _ _ _ _ h => h) (fun _ _ _ _ _ _ _ _ h => h) upd_same (by omega) (fun Dm i y H3 Qk Qn hy s4 nDm eDm hk => ?_) (fun Dm H3 vs nDm s4 eDm pv => ?_)⟩
        · obtain ⟨z, hz, T, rfl, hT⟩ := paired_get (py.same s4) hy
          refine ⟨T, _, rfl, sqT hT, rfl, _, _, rfl, _, _, rfl, rfl, rfl, iteT (B := Qn H3) ⟨_, rfl, hk _ H3 (fun z2 h2 => ?_) (Same.refl _)⟩⟩
          rw [hz] at h2
          cases h2
          rfl
        · have e : vs = (sortP (pairsOf js)).map fun z => V.int (z.2 : Nat) := paired_eq (paired_range pv py.length fun n y z hz h => h z hz)
          refine ⟨Dm, vs, rfl, .inl ⟨sqL eDm, fun l nl => q l _ (s1.trans (s2.trans (s3.trans (s4.trans (same_upd nl))))) ?_⟩⟩
          rw [upd_same, e]
          unfold byP nts
          rw [List.map_map]
          rfl
theorem ok_load {k : Nat} (D : Pr P K mg) : FnOk P w K mg base (CX P w) (k + 4) D.load.f D.load.fd ["jobs"] (spLoad D.BadNumber.C D.TooMany.C) := by
  have G_check_jobs : FnOk P w K mg base (CX P w) (k + 3) D.check_jobs.f D.check_jobs.fd ["jobs"] (spCheck D.BadNumber.C D.TooMany.C) := ok_check_jobs D
  refine D.load.F.okX sc_load (fun vs H Q E h => ?_) (fun cdv A outer s H vs Q E hr h => ?_)
  · obtain ⟨x, j, rfl, _⟩ := h
    rfl
  · obtain ⟨x, j, rfl, hj, h⟩ := h
    refine ⟨_, (pss_cons (ps_asg (pe_tup (pa_cons pe_int (pa_cons pe_int pa_nil))) (pg_tup rfl (pgs_cons (pg_name (i := 1) sc_load.nd rfl (.inl rfl)) (pgs_cons (pg_name (i := 2) sc_load.nd rfl (.inl rfl)) pgs_nil))))
      (pss_cons (ps_for (by passes_own) rfl (pi_tup (pe_call G_check_jobs hr (by rfl) D.check_jobs.g D.check_jobs.F.kp D.check_jobs.b .nil (passes_call (takes_of rfl rfl rfl rfl) (fun _ _ _ _ h => h)) (pa_cons (pv 0) pa_nil))) (pg_tup rfl (pgs_cons (pg_name (i := 3) sc_load.nd rfl (.inl rfl)) (pgs_cons (pg_name (i := 4) sc_load.nd rfl (.inl rfl)) (pgs_cons (pg_name (i := 5) sc_load.nd rfl (.inl rfl)) pgs_nil)))) (pss_cons (ps_par (i := 1) (j := 2) (by rfl) sc_load.nd rfl rfl (by decide) rfl rfl (pa_cons (pe_op op_add (pe_mul (pv 1) (pv 4)) (pe_mul (pv 3) (pv 2))) (pa_cons (pe_mul (pv 2) (pv 4)) pa_nil)) (by rfl)) (pss_cons (ps_set (i := 6) sc_load.nd rfl (.inl rfl) (pe_callBfun cr_gcd (by rfl) D.g_gcd (pa_cons (pv 1) (pa_cons (pv 2) pa_nil)))) (pss_one (ps_par (i := 1) (j := 2) (by rfl) sc_load.nd rfl rfl (by decide) rfl rfl (pa_cons (pe_op op_fdivN (pv 1) (pv 6)) (pa_cons (pe_op op_fdivN (pv 2) (pv 6)) pa_nil)) (by rfl))))))
      (pss_one (ps_ret (pe_tup (pa_cons (pv 1) (pa_cons (pv 2) pa_nil))))))), ?_⟩
    refine ⟨by show 2 ≤ sizeLine; decide, fun T0 nT0 => ⟨T0, _, rfl, sqT upd_same, rfl, _, _, rfl, _, _, rfl, rfl, x, rfl, x, j, rfl, hj.same (same_upd nT0), h.imp (same_upd nT0) fun js ec q a H1 s1' jt => ?_⟩⟩
    have s1 := (same_upd nT0).trans s1'
    obtain ⟨hl, hok⟩ := chk_ok ec
    obtain ⟨ts, ha, pt⟩ := id jt
    have lts := jt_len pt
    have e0 : low (frac []) = (0, 1) := by decide +kernel
    refine ⟨a, rfl, ⟨_, sqT ha⟩, forTt (D := { nx := _, rt := Q }) (fun i σ H' => (∃ c3 c4 c5 c6, σ = [some x, some (.int ((low (frac (js.take i))).1 : Nat)), some (.int ((low (frac (js.take i))).2 : Nat)), c3, c4, c5, c6]) ∧ Same H1 H') ha ⟨⟨_, _, _, _, by rw [List.take_zero, e0]; rfl⟩, Same.refl _⟩ (fun i σ H' o p e => p.2 _ _ e) ?_ ?_⟩
    · rintro i y σ H2 hy ⟨⟨c3, c4, c5, c6, rfl⟩, s2⟩
      obtain ⟨j', b, hj', rfl, hb⟩ := jobs_got (pt.same s2) hy
      have ok' := hok j' (List.mem_of_getElem? hj')
      have okt : ∀ j ∈ js.take i, JOk j := fun j h => hok j (List.mem_of_mem_take h)
      have hle := frac_le okt (x := (0, 1)) (k := 0) (by decide) (by decide)
      have hlt : (js.take i).length ≤ 4 := by have := (List.getElem?_eq_some_iff.mp hj').1; rw [List.length_take]; omega
      have hpos : 1 ≤ (frac (js.take i)).2 := frac_pos okt (by decide)
      have p4 : 24 ^ (0 + (js.take i).length) ≤ 24 ^ 4 := Nat.pow_le_pow_right (by decide) (by omega)
      have p4e : 24 ^ 4 = 331776 := by decide
      have h1 : (low (frac (js.take i))).1 ≤ 12 * 4 * 331776 := by
        have z := Nat.mul_le_mul (show 12 * (0 + (js.take i).length) ≤ 12 * 4 by omega) p4
        rw [p4e] at z
        exact Nat.le_trans (low_le _).1 (Nat.le_trans hle.1 z)
      have h2 : (low (frac (js.take i))).2 ≤ 331776 := Nat.le_trans (low_le _).2 (Nat.le_trans hle.2 (by rw [← p4e]; exact p4))
      have h3 := low_pos hpos
      rw [take_get hj', frac_snoc, low_step hpos ok'.p1]
      generalize low (frac (js.take i)) = z at h1 h2 h3 ⊢
      obtain ⟨n, d⟩ := z
      have := ok'.r2; have := ok'.p1; have := ok'.p2; have := ok'.r1
      have h1 : n ≤ 12 * 4 * 331776 := h1
      have h2 : d ≤ 331776 := h2
      have h3 : 1 ≤ d := h3
      refine ⟨b, _, rfl, sqT hb, rfl, _, _, rfl, _, _, rfl, _, _, rfl, rfl, ?_⟩
      refine ⟨_, rfl, _, rfl, _, _, rfl, rfl, ⟨by show -(2 ^ 64 : Int) < (n : Int); omega, by show (n : Int) < 2 ^ 64; omega⟩, _, rfl, _, rfl, _, _, rfl, rfl, ⟨by omega, by omega⟩, _, _, rfl, rfl, _, rfl, _, rfl, _, _, rfl, rfl, ⟨by show -(2 ^ 64 : Int) < (d : Int); omega, by show (d : Int) < 2 ^ 64; omega⟩, ?_⟩
      have e1 : ((n : Int) * (j'.p : Nat) + (j'.r : Nat) * (d : Int)) = ((n * j'.p + j'.r * d : Nat) : Int) := by rw [Int.natCast_add, Int.natCast_mul, Int.natCast_mul]
      have e2 : ((d : Int) * (j'.p : Nat)) = ((d * j'.p : Nat) : Int) := by rw [Int.natCast_mul]
      have hd2 : d * j'.p ≤ 331776 * 24 := Nat.mul_le_mul h2 ok'.p2
      have hd1 : 1 ≤ d * j'.p := Nat.mul_pos h3 ok'.p1
      have hg := Nat.gcd_le_right (n * j'.p + j'.r * d) hd1
      have hgp := Nat.gcd_pos_of_pos_right (n * j'.p + j'.r * d) hd1
      refine ⟨.int ((n * j'.p + j'.r * d : Nat) : Int), .int ((d * j'.p : Nat) : Int), (congrArg (fun a => [V.int a, V.int ((d : Int) * (j'.p : Nat))]) e1).trans (congrArg (fun b => [V.int ((n * j'.p + j'.r * d : Nat) : Int), V.int b]) e2), ?_⟩
      refine ⟨_, rfl, _, rfl, _, _, rfl, ?_⟩
      have c1 : ((Nat.gcd (n * j'.p + j'.r * d) (d * j'.p) : Nat) : Int) ≠ 0 := by omega
      have c2 : (((Nat.gcd (n * j'.p + j'.r * d) (d * j'.p) : Nat) : Int)).natAbs < 1073741824 := by omega
      refine ⟨_, rfl, _, rfl, _, _, rfl, rfl, ⟨c1, c2⟩, _, rfl, _, rfl, _, _, rfl, rfl, ⟨c1, c2⟩, _, _, rfl, ?_⟩
      have f1 : ∀ m : Nat, ((m : Nat) : Int).fdiv ((Nat.gcd (n * j'.p + j'.r * d) (d * j'.p) : Nat) : Int) = ((m / Nat.gcd (n * j'.p + j'.r * d) (d * j'.p) : Nat) : Int) := fun m => by
        rw [Int.fdiv_eq_ediv_of_nonneg _ (by omega), ← Int.natCast_ediv]
      have g1 := f1 (n * j'.p + j'.r * d)
      have g2 := f1 (d * j'.p)
      have key : ∀ u v : Int, u = (((n * j'.p + j'.r * d) / Nat.gcd (n * j'.p + j'.r * d) (d * j'.p) : Nat) : Int) → v = ((d * j'.p / Nat.gcd (n * j'.p + j'.r * d) (d * j'.p) : Nat) : Int) → ∀ a b c e : Option V, [some x, some (V.int u), some (V.int v), a, b, c, e] = [some x, some (.int ((low (n * j'.p + j'.r * d, d * j'.p)).1 : Nat)), some (.int ((low (n * j'.p + j'.r * d, d * j'.p)).2 : Nat)), a, b, c, e] := fun u v hu hv a b c e => by rw [hu, hv]; rfl
      exact ⟨⟨_, _, _, _, key _ _ g1 g2 (some (.int (j'.r : Nat))) (some (.int (j'.p : Nat))) (some (.int (j'.o : Nat))) (some (.int (Nat.gcd (n * j'.p + j'.r * d) (d * j'.p) : Nat)))⟩, s2⟩
    · rintro σ H2 ⟨⟨c3, c4, c5, c6, rfl⟩, s2⟩
      rw [lts, List.take_length]
      exact ⟨_, rfl, _, rfl, by show 2 ≤ sizeLine; decide, fun T nT => q T _ (s1.trans (s2.trans (same_upd nT))) upd_same⟩
end
end K7

set_option Elab.async false
set_option linter.all false
set_option maxRecDepth 100000
set_option maxHeartbeats 4000000
namespace K7
open PySem PySem.Spec PyProof.Rows L2 GX NdefX
def spLNums (K : PySem.W.Frag) : Sp := fun vs H Q _ => ∃ (a : Addr) (ns : List Int), vs = [.ref a] ∧ SqL K H a (ns.map V.int) ∧ ns.length ≤ 63 ∧
  ∀ D H' l, Same H H' → H D = none → H' D = some (.lst (nts l)) → l.length ≤ 4000 → Q (.ref D) H'
section
variable {P : Program} {w : World} {K : PySem.W.Frag} {mg : Str → Option Value} {base : Heap}
theorem ok_lnums {f : Addr} {fd : FuncData} {k : Nat} (F : Fun K "_law_numbers" "_law_numbers" s__law_numbers f fd) (B : Bl mg) : FnOk P w K mg base CX0 (k + 1) f fd ["script"] (spLNums K) := by
  refine F.ok sc__law_numbers (fun vs H Q E h => ?_) (fun cdv A outer s H vs Q E hr h => ?_)
  · obtain ⟨a, ns, rfl, _⟩ := h
    rfl
  · obtain ⟨a, ns, rfl, hq, hl, q⟩ := h
    refine ⟨_, pss_cons (ps_set (i := 1) sc__law_numbers.nd rfl (.inl rfl) (pe_lst pa_nil))
      (pss_cons (ps_for PassesOwn.never rfl (pi_range1 (by rfl) B.range (pa_cons (pe_callB (call_min2 rfl) (by rfl) B.min (by decide +kernel) (pa_cons (pe_callB call_len (by rfl) B.len PySem.boot_len (pa_cons (pv 0) pa_nil)) (pa_cons pe_int pa_nil))) pa_nil)) (pg_name (i := 2) sc__law_numbers.nd rfl (.inl rfl))
        (pss_cons (ps_set (i := 3) sc__law_numbers.nd rfl (.inl rfl) (pe_callTy call_int1 (by rfl) B.int (by decide +kernel) (pa_cons (pe_ix (r := rIxL K) ix_list (pv 0) (pv 2) (fun _ _ => rfl)) pa_nil)))
        (pss_cons (ps_set (i := 4) sc__law_numbers.nd rfl (.inl rfl) pe_int)
        (pss_cons (ps_if (pt_cmpR op_lt (pv 3) pe_int (nomark _)) (pss_cons (ps_set (i := 3) sc__law_numbers.nd rfl (.inl rfl) (pe_op op_sub pe_int (pv 3))) (pss_one (ps_set (i := 4) sc__law_numbers.nd rfl (.inl rfl) pe_int))) pss_nil)
        (pss_one (ps_if (pt_cmpR op_ge (pv 3) (pe_op op_pow pe_int pe_int) (nomark _))
          (pss_one (ps_for PassesOwn.never rfl (pi_range1 (by rfl) B.range (pa_cons pe_int pa_nil)) (pg_name (i := 5) sc__law_numbers.nd rfl (.inl rfl))
            (pss_one (ps_if (pt_cmpR op_gt (pv 3) pe_int (nomark _))
              (pss_cons (ps_expr (pe_bm PySem.F.plainAttrs_list PySem.F.slot_list_append PySem.F.type_list_append mt_append (pv 1) (pa_cons (pe_op op_modN (pe_callTy call_int1 (by rfl) B.int (by decide +kernel) (pa_cons (pv 3) pa_nil)) pe_int) pa_nil)))
              (pss_one (ps_set (i := 3) sc__law_numbers.nd rfl (.inl rfl) (pe_op op_fdivN (pv 3) pe_int)))) pss_nil))))
          (pss_cons (ps_set (i := 6) sc__law_numbers.nd rfl (.inl rfl) (pe_op op_modN (pe_callTy call_int1 (by rfl) B.int (by decide +kernel) (pa_cons (pe_op op_add (pe_op op_add (pe_op op_add (pe_mul (pv 3) pe_int) (pe_mul (pv 2) pe_int)) (pe_mul (pv 4) pe_int)) pe_int) pa_nil)) pe_int))
          (pss_one (ps_for PassesOwn.never rfl (pi_range1 (by rfl) B.range (pa_cons pe_int pa_nil)) (pg_name (i := 5) sc__law_numbers.nd rfl (.inl rfl))
            (pss_cons (ps_set (i := 6) sc__law_numbers.nd rfl (.inl rfl) (pe_op op_modN (pe_callTy call_int1 (by rfl) B.int (by decide +kernel) (pa_cons (pe_op op_add (pe_op op_add (pe_mul (pv 6) pe_int) (pe_mul (pe_callTy call_int1 (by rfl) B.int (by decide +kernel) (pa_cons (pe_op op_fdivN (pv 6) pe_int) pa_nil)) (pv 5))) pe_int) pa_nil)) pe_int))
            (pss_one (ps_expr (pe_bm PySem.F.plainAttrs_list PySem.F.slot_list_append PySem.F.type_list_append mt_append (pv 1) (pa_cons (pe_op op_modN (pe_callTy call_int1 (by rfl) B.int (by decide +kernel) (pa_cons (pe_op op_fdivN (pv 6) pe_int) pa_nil)) pe_int) pa_nil))))))))))))))
      (pss_cons (ps_expr (pe_bm0 PySem.F.plainAttrs_list PySem.F.slot_list_reverse PySem.F.type_list_reverse mt_reverse (pv 1)))
      (pss_one (ps_ret (pv 1))))), ?_⟩
    refine ⟨Nat.zero_le _, fun D nD => ?_⟩
    refine ⟨.ref a, rfl, .ref a, ns.length, rfl, .inl ⟨_, Same.seq (same_upd nD) hq, by rw [List.length_map]⟩, (ns.length : Int), 63, rfl, ?_⟩
    rw [if_neg (by omega)]
    refine ⟨(ns.length : Int), rfl, by omega, by omega, ?_⟩
    refine for_range (D := { nx := _, rt := Q }) (fun i σ H' => (∃ c2 c3 c4 c5 c6, σ = [some (.ref a), some (.ref D), c2, c3, c4, c5, c6]) ∧ Same H H' ∧ ∃ l, H' D = some (.lst (nts l)) ∧ l.length ≤ 45 * i) ?_ ?_ ?_
    · exact ⟨⟨_, _, _, _, _, rfl⟩, same_upd nD, [], upd_same, Nat.le_refl _⟩
    · rintro i σ H2 hi ⟨⟨c2, c3, c4, c5, c6, rfl⟩, s2, l, e2, hl2⟩
      have hi : i < ns.length := by
        have : i < ((ns.length : Int)).toNat := hi
        omega
      have ei : (0 : Int) + i = i := Int.zero_add _
      refine ⟨.ref a, rfl, _, rfl, a, _, _, .int ns[i], rfl, rfl, Same.seq s2 hq, by rw [ei]; refine atI_nat ?_; rw [List.getElem?_map, List.getElem?_eq_getElem hi]; rfl, .inl ⟨ns[i], rfl, ?_⟩⟩
      refine ⟨_, rfl, ns[i], 0, rfl, rfl, _, rfl, ?_⟩
      generalize ns[i] = n
      by_cases hneg : n < 0
      · rw [decide_eq_true hneg]
        refine iteT ⟨.int n, rfl, 0, n, rfl, rfl, ?_⟩
        have hc : (0 : Int) ≤ 0 - n := by omega
        refine ⟨.int (0 - n), rfl, 10, 18, rfl, rfl, ⟨by decide, by decide, by decide⟩, (0 - n), _, rfl, rfl, _, rfl, ?_⟩
        by_cases hbig : (10 : Int) ^ (18 : Int).toNat ≤ (0 - n)
        · rw [decide_eq_true hbig]
          refine iteT ⟨45, rfl, by decide, by decide, ?_⟩
          refine for_range (D := { nx := _, rt := Q }) (fun j σ H' => (∃ c' c5, σ = [some (.ref a), some (.ref D), some (.int (0 + (i : Int))), some (.int c'), some (.int 1), c5, c6] ∧ 0 ≤ c') ∧ Same H H' ∧ ∃ l, H' D = some (.lst (nts l)) ∧ l.length ≤ 45 * i + j) ?_ ?_ ?_
          · exact ⟨⟨_, _, rfl, hc⟩, s2, l, e2, hl2⟩
          · rintro j σ H3 hj ⟨⟨c', c5, rfl, hc'⟩, s3, l, e3, hl3⟩
            have hj : j < 45 := hj
            refine ⟨.int c', rfl, c', 0, rfl, rfl, _, rfl, ?_⟩
            by_cases hpos : (0 : Int) < c'
            · rw [decide_eq_true hpos]
              refine iteT ⟨.ref D, rfl, .inl ⟨rfl, _, sqL e3⟩, .int c', rfl, .inl ⟨c', rfl, c', 60, rfl, rfl, (by show (60 : Int) ≠ 0; decide), D, _, _, rfl, rfl, e3, by rw [nts_len, sizeLine_eq]; omega, .int c', rfl, c', 60, rfl, rfl, ⟨by decide, by decide⟩, ?_⟩⟩
              have hm := fmod_nn (a := c') (b := 60) hc' (by decide)
              refine ⟨⟨_, _, rfl, (fdiv_nn hc' (by decide)).1⟩, fun b o e => ?_, l ++ [(c'.fmod 60).toNat], ?_, ?_⟩
              · rw [upd_ne (ne_of_none e nD)]
                exact s3 _ _ e
              · rw [upd_same, nts_snoc _ hm.1]
              · rw [List.length_append, List.length_singleton]
                omega
            · rw [decide_eq_false hpos]
              exact iteF ⟨⟨_, _, rfl, hc'⟩, s3, l, e3, by omega⟩
          · rintro σ H3 ⟨⟨c', c5, rfl, hc'⟩, s3, l, e3, hl3⟩
            have hl3 : l.length ≤ 45 * i + 45 := hl3
            exact ⟨⟨_, _, _, _, _, rfl⟩, s3, l, e3, by omega⟩
        · rw [decide_eq_false hbig]
          have hbig : ¬ (1000000000000000000 : Int) ≤ (0 - n) := hbig
          refine iteF ⟨.int (0 - n), rfl, (0 - n), 16807, rfl, rfl, ⟨by omega, by omega⟩, _, rfl, _, 7919, rfl, rfl, ⟨by omega, by omega⟩, _, _, rfl, rfl, .int 1, rfl, 1, 104729, rfl, rfl, ⟨by omega, by omega⟩, _, _, rfl, rfl, _, _, rfl, rfl, .inl ⟨_, rfl, _, 2147483629, rfl, rfl, (by show (2147483629 : Int) ≠ 0; decide), 7, rfl, by decide, by decide, ?_⟩⟩
          have hs := fmod_nn (a := (0 - n) * 16807 + (0 + (i : Int)) * 7919 + 1 * 104729 + 11) (b := 2147483629) (by omega) (by decide)
          refine for_range (D := { nx := _, rt := Q }) (fun j σ H' => (∃ c5 sd, σ = [some (.ref a), some (.ref D), some (.int (0 + (i : Int))), some (.int (0 - n)), some (.int 1), c5, some (.int sd)] ∧ 0 ≤ sd ∧ sd < 2147483629) ∧ Same H H' ∧ ∃ l, H' D = some (.lst (nts l)) ∧ l.length ≤ 45 * i + j) ?_ ?_ ?_
          · exact ⟨⟨_, _, rfl, hs⟩, s2, l, e2, hl2⟩
          · rintro j σ H3 hj ⟨⟨c5, sd, rfl, h0, h1⟩, s3, l, e3, hl3⟩
            have hj : j < 7 := hj
            have hd := fdiv_nn (a := sd) (b := 1000) h0 (by decide)
            refine ⟨.int sd, rfl, sd, 39373, rfl, rfl, ⟨by omega, by omega⟩, .int sd, rfl, sd, 1000, rfl, rfl, ⟨by decide, by decide⟩, .inl ⟨_, rfl, _, rfl, _, _, rfl, rfl, ⟨by omega, by omega⟩, _, _, rfl, rfl, _, _, rfl, rfl, .inl ⟨_, rfl, _, 2147483629, rfl, rfl, (by show (2147483629 : Int) ≠ 0; decide), ?_⟩⟩⟩
            have hp : 0 ≤ sd.fdiv 1000 * (0 + (j : Int)) := Int.mul_nonneg hd.1 (by omega)
            have hs2 := fmod_nn (a := sd * 39373 + sd.fdiv 1000 * (0 + (j : Int)) + 7919) (b := 2147483629) (by omega) (by decide)
            have hd2 := fdiv_nn (a := (sd * 39373 + sd.fdiv 1000 * (0 + (j : Int)) + 7919).fmod 2147483629) (b := 7) hs2.1 (by decide)
            have hm2 := fmod_nn (a := ((sd * 39373 + sd.fdiv 1000 * (0 + (j : Int)) + 7919).fmod 2147483629).fdiv 7) (b := 55440) hd2.1 (by decide)
            refine ⟨.ref D, rfl, .inl ⟨rfl, _, sqL e3⟩, _, rfl, _, 7, rfl, rfl, ⟨by decide, by decide⟩, .inl ⟨_, rfl, _, 55440, rfl, rfl, (by show (55440 : Int) ≠ 0; decide), D, _, _, rfl, rfl, e3, by rw [nts_len, sizeLine_eq]; omega, ?_⟩⟩
            refine ⟨⟨_, _, rfl, hs2⟩, fun b o e => ?_, l ++ [((((sd * 39373 + sd.fdiv 1000 * (0 + (j : Int)) + 7919).fmod 2147483629).fdiv 7).fmod 55440).toNat], ?_, ?_⟩
            · rw [upd_ne (ne_of_none e nD)]
              exact s3 _ _ e
            · rw [upd_same]
              exact congrArg (fun l => some (HO.lst l)) (nts_snoc _ hm2.1)
            · rw [List.length_append, List.length_singleton]
              omega
          · rintro σ H3 ⟨⟨c5, sd, rfl, h0, h1⟩, s3, l, e3, hl3⟩
            have hl3 : l.length ≤ 45 * i + 7 := hl3
            exact ⟨⟨_, _, _, _, _, rfl⟩, s3, l, e3, by omega⟩
      · rw [decide_eq_false hneg]
        refine iteF ?_
        have hc : (0 : Int) ≤ n := by omega
        refine ⟨.int n, rfl, 10, 18, rfl, rfl, ⟨by decide, by decide, by decide⟩, n, _, rfl, rfl, _, rfl, ?_⟩
        by_cases hbig : (10 : Int) ^ (18 : Int).toNat ≤ n
        · rw [decide_eq_true hbig]
          refine iteT ⟨45, rfl, by decide, by decide, ?_⟩
          refine for_range (D := { nx := _, rt := Q }) (fun j σ H' => (∃ c' c5, σ = [some (.ref a), some (.ref D), some (.int (0 + (i : Int))), some (.int c'), some (.int 0), c5, c6] ∧ 0 ≤ c') ∧ Same H H' ∧ ∃ l, H' D = some (.lst (nts l)) ∧ l.length ≤ 45 * i + j) ?_ ?_ ?_
          · exact ⟨⟨_, _, rfl, hc⟩, s2, l, e2, hl2⟩
          · rintro j σ H3 hj ⟨⟨c', c5, rfl, hc'⟩, s3, l, e3, hl3⟩
            have hj : j < 45 := hj
            refine ⟨.int c', rfl, c', 0, rfl, rfl, _, rfl, ?_⟩
            by_cases hpos : (0 : Int) < c'
            · rw [decide_eq_true hpos]
              refine iteT ⟨.ref D, rfl, .inl ⟨rfl, _, sqL e3⟩, .int c', rfl, .inl ⟨c', rfl, c', 60, rfl, rfl, (by show (60 : Int) ≠ 0; decide), D, _, _, rfl, rfl, e3, by rw [nts_len, sizeLine_eq]; omega, .int c', rfl, c', 60, rfl, rfl, ⟨by decide, by decide⟩, ?_⟩⟩
              have hm := fmod_nn (a := c') (b := 60) hc' (by decide)
              refine ⟨⟨_, _, rfl, (fdiv_nn hc' (by decide)).1⟩, fun b o e => ?_, l ++ [(c'.fmod 60).toNat], ?_, ?_⟩
              · rw [upd_ne (ne_of_none e nD)]
                exact s3 _ _ e
              · rw [upd_same, nts_snoc _ hm.1]
              · rw [List.length_append, List.length_singleton]
                omega
            · rw [decide_eq_false hpos]
              exact iteF ⟨⟨_, _, rfl, hc'⟩, s3, l, e3, by omega⟩
          · rintro σ H3 ⟨⟨c', c5, rfl, hc'⟩, s3, l, e3, hl3⟩
            have hl3 : l.length ≤ 45 * i + 45 := hl3
            exact ⟨⟨_, _, _, _, _, rfl⟩, s3, l, e3, by omega⟩
        · rw [decide_eq_false hbig]
          have hbig : ¬ (1000000000000000000 : Int) ≤ n := hbig
          refine iteF ⟨.int n, rfl, n, 16807, rfl, rfl, ⟨by omega, by omega⟩, _, rfl, _, 7919, rfl, rfl, ⟨by omega, by omega⟩, _, _, rfl, rfl, .int 0, rfl, 0, 104729, rfl, rfl, ⟨by omega, by omega⟩, _, _, rfl, rfl, _, _, rfl, rfl, .inl ⟨_, rfl, _, 2147483629, rfl, rfl, (by show (2147483629 : Int) ≠ 0; decide), 7, rfl, by decide, by decide, ?_⟩⟩
          have hs := fmod_nn (a := n * 16807 + (0 + (i : Int)) * 7919 + 0 * 104729 + 11) (b := 2147483629) (by omega) (by decide)
          refine for_range (D := { nx := _, rt := Q }) (fun j σ H' => (∃ c5 sd, σ = [some (.ref a), some (.ref D), some (.int (0 + (i : Int))), some (.int n), some (.int 0), c5, some (.int sd)] ∧ 0 ≤ sd ∧ sd < 2147483629) ∧ Same H H' ∧ ∃ l, H' D = some (.lst (nts l)) ∧ l.length ≤ 45 * i + j) ?_ ?_ ?_
          · exact ⟨⟨_, _, rfl, hs⟩, s2, l, e2, hl2⟩
          · rintro j σ H3 hj ⟨⟨c5, sd, rfl, h0, h1⟩, s3, l, e3, hl3⟩
            have hj : j < 7 := hj
            have hd := fdiv_nn (a := sd) (b := 1000) h0 (by decide)
            refine ⟨.int sd, rfl, sd, 39373, rfl, rfl, ⟨by omega, by omega⟩, .int sd, rfl, sd, 1000, rfl, rfl, ⟨by decide, by decide⟩, .inl ⟨_, rfl, _, rfl, _, _, rfl, rfl, ⟨by omega, by omega⟩, _, _, rfl, rfl, _, _, rfl, rfl, .inl ⟨_, rfl, _, 2147483629, rfl, rfl, (by show (2147483629 : Int) ≠ 0; decide), ?_⟩⟩⟩
            have hp : 0 ≤ sd.fdiv 1000 * (0 + (j : Int)) := Int.mul_nonneg hd.1 (by omega)
            have hs2 := fmod_nn (a := sd * 39373 + sd.fdiv 1000 * (0 + (j : Int)) + 7919) (b := 2147483629) (by omega) (by decide)
            have hd2 := fdiv_nn (a := (sd * 39373 + sd.fdiv 1000 * (0 + (j : Int)) + 7919).fmod 2147483629) (b := 7) hs2.1 (by decide)
            have hm2 := fmod_nn (a := ((sd * 39373 + sd.fdiv 1000 * (0 + (j : Int)) + 7919).fmod 2147483629).fdiv 7) (b := 55440) hd2.1 (by decide)
            refine ⟨.ref D, rfl, .inl ⟨rfl, _, sqL e3⟩, _, rfl, _, 7, rfl, rfl, ⟨by decide, by decide⟩, .inl ⟨_, rfl, _, 55440, rfl, rfl, (by show (55440 : Int) ≠ 0; decide), D, _, _, rfl, rfl, e3, by rw [nts_len, sizeLine_eq]; omega, ?_⟩⟩
            refine ⟨⟨_, _, rfl, hs2⟩, fun b o e => ?_, l ++ [((((sd * 39373 + sd.fdiv 1000 * (0 + (j : Int)) + 7919).fmod 2147483629).fdiv 7).fmod 55440).toNat], ?_, ?_⟩
            · rw [upd_ne (ne_of_none e nD)]
              exact s3 _ _ e
            · rw [upd_same]
              exact congrArg (fun l => some (HO.lst l)) (nts_snoc _ hm2.1)
            · rw [List.length_append, List.length_singleton]
              omega
          · rintro σ H3 ⟨⟨c5, sd, rfl, h0, h1⟩, s3, l, e3, hl3⟩
            have hl3 : l.length ≤ 45 * i + 7 := hl3
            exact ⟨⟨_, _, _, _, _, rfl⟩, s3, l, e3, by omega⟩
    · rintro σ H2 ⟨⟨c2, c3, c4, c5, c6, rfl⟩, s2, l, e2, hl2⟩
      have hl2 : l.length ≤ 45 * ((ns.length : Int)).toNat := hl2
      refine ⟨.ref D, rfl, .inl ⟨rfl, _, sqL e2⟩, D, _, rfl, rfl, e2, .ref D, rfl, q D _ l.reverse (fun b o e => ?_) nD ?_ ?_⟩
      · rw [upd_ne (ne_of_none e nD)]
        exact s2 _ _ e
      · rw [upd_same]
        unfold nts
        rw [List.map_reverse]
      · rw [List.length_reverse]
        omega
end
def spDraw : Sp := fun vs H Q _ => ∃ (a : Addr) (m : Nat), vs = [.ref a, .int m] ∧ 1 ≤ m ∧ NumsAt H a ∧ ∀ (H' : Hp) (r : Nat), r < m → SameB a H H' → NumsAt H' a → Q (.int (r : Nat)) H'
def spInt : Sp := fun vs H Q _ => ∃ i : Int, vs = [.int i] ∧ Q (.bl true) H
section
variable {P : Program} {w : World} {K : PySem.W.Frag} {mg : Str → Option Value} {base : Heap}
theorem ok_draw {f : Addr} {fd : FuncData} {k : Nat} (F : Fun K "_law_draw" "_law_draw" s__law_draw f fd) (B : Bl mg) : FnOk P w K mg base CX0 (k + 1) f fd ["numbers", "many"] spDraw := by
  refine F.ok sc__law_draw (fun vs H Q E h => ?_) (fun cdv A outer s H vs Q E hr h => ?_)
  · obtain ⟨a, m, rfl, _⟩ := h
    rfl
  · obtain ⟨a, m, rfl, hm, ⟨l, ea, hl⟩, q⟩ := h
    refine ⟨_, pss_cons (ps_if (pt_cmpR op_eq (pe_callB call_len (by rfl) B.len PySem.boot_len (pa_cons (pv 0) pa_nil)) pe_int (nomark _)) (pss_one (ps_ret pe_int)) pss_nil)
      (pss_one (ps_ret (pe_op op_modN (pe_callTy call_int1 (by rfl) B.int (by decide +kernel) (pa_cons (pe_bm0 PySem.F.plainAttrs_list PySem.F.slot_list_pop PySem.F.type_list_pop mt_pop (pv 0)) pa_nil)) (pv 1)))), ?_⟩
    refine ⟨.ref a, rfl, .ref a, l.length, rfl, .inl ⟨_, sqL ea, (nts_len l).symm⟩, rfl, _, rfl, ?_⟩
    by_cases h0 : l.length = 0
    · rw [decide_eq_true (by rw [h0]; rfl)]
      exact iteT (q H 0 hm SameB.refl ⟨l, ea, hl⟩)
    rw [decide_eq_false (fun e => h0 (by have := V.int.inj e; omega))]
    have hi : l.length - 1 < l.length := by omega
    refine iteF ⟨.ref a, rfl, .inl ⟨rfl, _, sqL ea⟩, a, _, .int (l[l.length - 1]), rfl, rfl, ea, ?_, .inl ⟨_, rfl, .int m, rfl, _, m, rfl, rfl, (by show (m : Int) ≠ 0; omega), ?_⟩⟩
    · rw [nts_len]
      unfold nts
      rw [List.getElem?_map, List.getElem?_eq_getElem hi]
      rfl
    · have hf := fmod_nn (a := ((l[l.length - 1] : Nat) : Int)) (b := m) (by omega) (by omega)
      have z := q (upd H a (.lst (nts l).dropLast)) (((l[l.length - 1] : Nat) : Int).fmod m).toNat (by omega) (fun b o n e => by rw [upd_ne n]; exact e) ⟨l.dropLast, by rw [upd_same]; unfold nts; rw [List.map_dropLast], by rw [List.length_dropLast]; omega⟩
      rw [Int.toNat_of_nonneg hf.1] at z
      exact z
theorem ok_lint {f : Addr} {fd : FuncData} {k : Nat} (F : Fun K "_law_int" "_law_int" s__law_int f fd) (B : Bl mg) : FnOk P w K mg base CX0 (k + 1) f fd ["value"] spInt := by
  refine F.ok sc__law_int (fun vs H Q E h => ?_) (fun cdv A outer s H vs Q E hr h => ?_)
  · obtain ⟨i, rfl, _⟩ := h
    rfl
  · obtain ⟨i, rfl, q⟩ := h
    refine ⟨_, pss_one (ps_ret (pe_and (pe_callB call_isi (by rfl) B.isinstance (by decide +kernel) (pa_cons (pv 0) (pa_cons (pe_bltn (v := .ty "int") (u := .type "int") (by rfl) B.int (by decide +kernel) rfl) pa_nil)))
      (pe_one (pe_not (pe_callB call_isi (by rfl) B.isinstance (by decide +kernel) (pa_cons (pv 0) (pa_cons (pe_bltn (v := .ty "bool") (u := .type "bool") (by rfl) B.bool (by decide +kernel) rfl) pa_nil))))))), ?_⟩
    refine ⟨_, rfl, _, _, .type "int", _, true, rfl, .ty "int", .base (.int i), kit_ty (by decide +kernel), true, rfl, iteT ?_⟩
    exact ⟨_, rfl, _, _, .type "int", _, false, rfl, .ty "bool", .base (.int i), kit_ty (by decide +kernel), _, rfl, q⟩
theorem ok_numsD {k : Nat} (D : Pr P K mg) : FnOk P w K mg base CX0 (k + 1) D._law_numbers.f D._law_numbers.fd ["script"] (spLNums K) := ok_lnums D._law_numbers.F D.B
theorem ok_drawD {k : Nat} (D : Pr P K mg) : FnOk P w K mg base CX0 (k + 1) D._law_draw.f D._law_draw.fd ["numbers", "many"] spDraw := ok_draw D._law_draw.F D.B
theorem ok_intD {k : Nat} (D : Pr P K mg) : FnOk P w K mg base CX0 (k + 1) D._law_int.f D._law_int.fd ["value"] spInt := ok_lint D._law_int.F D.B
end
end K7

set_option Elab.async false
set_option linter.all false
set_option maxRecDepth 100000
set_option maxHeartbeats 4000000
namespace K7
open PySem PySem.Spec PyProof.Rows L2 GX NdefX
/-! ### _law_any_jobs, _law_dividing -/
def JobsL (H : Hp) (D : Addr) (js : List Job) : Prop := ∃ ts, H D = some (.lst ts) ∧ TupsT H ts (js.map jv)
theorem JobsL.same {H H' : Hp} {D : Addr} {js : List Job} (s : Same H H') (h : JobsL H D js) : JobsL H' D js := by
  obtain ⟨ts, e, p⟩ := h
  exact ⟨ts, s _ _ e, p.same s⟩
theorem JobsL.b {a : Addr} {H H' : Hp} {D : Addr} {js : List Job} (n : NumsAt H a) (hd : D ≠ a) (s : SameB a H H') (h : JobsL H D js) : JobsL H' D js := by
  obtain ⟨ts, e, p⟩ := h
  exact ⟨ts, s _ _ hd e, tupsB n s p⟩
theorem JobsL.len {K : PySem.W.Frag} {H : Hp} {D : Addr} {js : List Job} (h : JobsL H D js) : LenV K (.ref D) H js.length := by
  obtain ⟨ts, e, p⟩ := h
  exact .inl ⟨ts, sqL e, by have := p.length; rw [List.length_map] at this; exact this.symm⟩
/-- a job behind a list of jobs -/
theorem JobsL.app {H : Hp} {D T : Addr} {ts : List V} {js : List Job} {j : Job} (e : H D = some (.lst ts)) (p : TupsT H ts (js.map jv)) (h : H T = some (.tup (jv j))) : JobsL (upd H D (.lst (ts ++ [.ref T]))) D (js ++ [j]) := by
  refine ⟨ts ++ [.ref T], upd_same, ?_⟩
  rw [List.map_append]
  exact paired_app (tups_upd e p) (.cons (tup_upd e ⟨T, rfl, h⟩) .nil)
def spJobs (ok : List Job → Prop) : Sp := fun vs H Q _ => ∃ a : Addr, vs = [.ref a] ∧ NumsAt H a ∧ ∀ D H' js, SameB a H H' → NumsAt H' a → H D = none → JobsL H' D js → ok js → Q (.ref D) H'
def OkJobs (js : List Job) : Prop := js.length ≤ 4 ∧ ∀ j ∈ js, JOk j
def OkDiv (js : List Job) : Prop := 1 ≤ js.length ∧ js.length ≤ 4 ∧ (∀ j ∈ js, JOk j) ∧ (js.map (·.p)).Pairwise (· ∣ ·)
section
variable {P : Program} {w : World} {K : PySem.W.Frag} {mg : Str → Option Value} {base : Heap}
theorem ok_any_jobs {k : Nat} (D : Pr P K mg) : FnOk P w K mg base CX0 (k + 2) D._law_any_jobs.f D._law_any_jobs.fd ["numbers"] (spJobs OkJobs) := by
  have G__law_draw : FnOk P w K mg base CX0 (k + 1) D._law_draw.f D._law_draw.fd ["numbers", "many"] spDraw := ok_drawD D
  refine D._law_any_jobs.F.ok sc__law_any_jobs (fun vs H Q E h => ?_) (fun cdv A outer s H vs Q E hr h => ?_)
  · obtain ⟨a, rfl, _⟩ := h
    rfl
  · obtain ⟨a, rfl, hn, q⟩ := h
    refine ⟨_, (pss_cons (ps_set (i := 1) sc__law_any_jobs.nd rfl (.inl rfl) (pe_lst pa_nil))
      (pss_cons (ps_for PassesOwn.never rfl (pi_range1 (by rfl) D.B.range (pa_cons (pe_call G__law_draw hr (by rfl) D._law_draw.g D._law_draw.F.kp D._law_draw.b .nil pass0 (pa_cons (pv 0) (pa_cons pe_int pa_nil))) pa_nil)) (pg_name (i := 2) sc__law_any_jobs.nd rfl (.inl rfl)) (pss_cons (ps_set (i := 3) sc__law_any_jobs.nd rfl (.inl rfl) (pe_op (r := rAddN) op_AddN pe_int (pe_op (r := rModN) op_ModN (pe_callTy call_int1 (by rfl) D.B.int (by decide +kernel) (pa_cons (pe_call G__law_draw hr (by rfl) D._law_draw.g D._law_draw.F.kp D._law_draw.b .nil pass0 (pa_cons (pv 0) (pa_cons pe_int pa_nil))) pa_nil)) (pe_ix (r := rIxL K) ix_list (pe_lst (pa_cons pe_int (pa_cons pe_int pa_nil))) (pe_call G__law_draw hr (by rfl) D._law_draw.g D._law_draw.F.kp D._law_draw.b .nil pass0 (pa_cons (pv 0) (pa_cons pe_int pa_nil))) (fun _ _ => rfl))))) (pss_one (ps_expr (pe_bm PySem.F.plainAttrs_list PySem.F.slot_list_append PySem.F.type_list_append mt_append (pv 1) (pa_cons (pe_tup (pa_cons (pe_op (r := rAddN) op_AddN pe_int (pe_call G__law_draw hr (by rfl) D._law_draw.g D._law_draw.F.kp D._law_draw.b .nil pass0 (pa_cons (pv 0) (pa_cons pe_int pa_nil)))) (pa_cons (pv 3) (pa_cons (pe_call G__law_draw hr (by rfl) D._law_draw.g D._law_draw.F.kp D._law_draw.b .nil pass0 (pa_cons (pv 0) (pa_cons (pv 3) pa_nil))) pa_nil)))) pa_nil))))))
      (pss_one (ps_ret (pv 1))))), ?_⟩
    refine ⟨by decide, fun R nR => ?_⟩
    have hRa := nums_ne hn nR
    have n0 := hn.same (same_upd nR (o := .lst []))
    refine ⟨.ref a, rfl, a, 5, rfl, by decide, n0, fun H1 r hr5 s1 n1 => ⟨(r : Nat), rfl, by omega, by omega, ?_⟩⟩
    refine forRg (D := { nx := _, rt := Q }) (n := r) (fun i σ H' => (∃ c2 c3, σ = [some (.ref a), some (.ref R), c2, c3]) ∧ SameB a H H' ∧ NumsAt H' a ∧ ∃ js, JobsL H' R js ∧ js.length = i ∧ ∀ j ∈ js, JOk j) ?_ ?_ ?_
    · exact ⟨⟨_, _, rfl⟩, (sameB_of (same_upd nR)).trans s1, n1, [], ⟨[], s1 _ _ hRa upd_same, .nil⟩, rfl, fun j h => absurd h (by simp)⟩
    · rintro i σ H2 hi ⟨⟨c2, c3, rfl⟩, s2, n2, js, jl, hlen, hok⟩
      refine ⟨.ref a, rfl, a, 24, rfl, by decide, n2, fun H3 r3 hr3 s3 n3 => .inl ⟨_, rfl, by show 2 ≤ sizeLine; decide, fun L nL => ⟨.ref a, rfl, a, 2, rfl, by decide, n3.same (same_upd nL), fun H4 r4 hr4 s4 n4 => ?_⟩⟩⟩
      have s24 := s3.trans ((sameB_of (same_upd nL (o := .lst [.int 24, .int 6]))).trans s4)
      refine pick (ms := [24, 6]) (s4 _ _ (nums_ne n3 nL) upd_same) hr4 fun v hv => ⟨r3, v, rfl, rfl, ?_, 1, r3 % v, rfl, rfl, ?_⟩
      · simp only [List.mem_cons, List.not_mem_nil, or_false] at hv
        omega
      have hv2 : 1 + r3 % v ≤ 24 := by
        simp only [List.mem_cons, List.not_mem_nil, or_false] at hv
        rcases hv with rfl | rfl
        · have := Nat.mod_lt r3 (show 0 < 24 by decide); omega
        · have := Nat.mod_lt r3 (show 0 < 6 by decide); omega
      generalize hp : 1 + r3 % v = p at hv2 ⊢
      have hp1 : 1 ≤ p := by omega
      have jl4 := jl.b n2 hRa s24
      refine ⟨.ref R, rfl, .inl ⟨rfl, _, sqL (jl4.choose_spec.1)⟩, .ref a, rfl, a, 6, rfl, by decide, n4, fun H5 r5 hr5 s5 n5 => ⟨1, r5, rfl, rfl, .int (p : Nat), rfl, .ref a, rfl, .int (p : Nat), rfl, a, p, rfl, hp1, n5, fun H6 r6 hr6 s6 n6 => ⟨by show 3 ≤ sizeLine; decide, fun T nT => ?_⟩⟩⟩
      have sT := same_upd nT (o := .tup [.int ((1 + r5 : Nat) : Int), .int (p : Nat), .int (r6 : Nat)])
      have s26 := s24.trans (s5.trans (s6.trans (sameB_of sT)))
      obtain ⟨ts, e, pt⟩ := (jl4.b n4 hRa (s5.trans s6)).same sT
      have lts : ts.length = js.length := by have := pt.length; rw [List.length_map] at this; exact this
      refine ⟨R, ts, _, rfl, rfl, e, by rw [sizeLine_eq]; omega, ⟨_, _, rfl⟩, fun b o hb h => by rw [upd_ne (ne_of_none h nR)]; exact s26 _ _ hb (s2 _ _ hb h), nums_upd (n6.same sT) hRa, js ++ [⟨1 + r5, p, r6⟩], JobsL.app e pt upd_same, by rw [List.length_append, hlen]; rfl, fun j hj => ?_⟩
      rcases List.mem_append.mp hj with hj | hj
      · exact hok j hj
      · rw [List.mem_singleton.mp hj]
        exact ⟨by show 1 ≤ 1 + r5; omega, by show 1 + r5 ≤ 12; omega, hp1, hv2, hr6⟩
    · rintro σ H2 ⟨⟨c2, c3, rfl⟩, s2, n2, js, jl, hlen, hok⟩
      exact ⟨_, rfl, q R H2 js s2 n2 nR jl ⟨by omega, hok⟩⟩
theorem ok_dividing {k : Nat} (D : Pr P K mg) : FnOk P w K mg base CX0 (k + 2) D._law_dividing.f D._law_dividing.fd ["numbers"] (spJobs OkDiv) := by
  have G__law_draw : FnOk P w K mg base CX0 (k + 1) D._law_draw.f D._law_draw.fd ["numbers", "many"] spDraw := ok_drawD D
  refine D._law_dividing.F.ok sc__law_dividing (fun vs H Q E h => ?_) (fun cdv A outer s H vs Q E hr h => ?_)
  · obtain ⟨a, rfl, _⟩ := h
    rfl
  · obtain ⟨a, rfl, hn, q⟩ := h
    refine ⟨_, (pss_cons (ps_set (i := 1) sc__law_dividing.nd rfl (.inl rfl) (pe_lst pa_nil))
      (pss_cons (ps_set (i := 2) sc__law_dividing.nd rfl (.inl rfl) (pe_op (r := rAddN) op_AddN pe_int (pe_call G__law_draw hr (by rfl) D._law_draw.g D._law_draw.F.kp D._law_draw.b .nil pass0 (pa_cons (pv 0) (pa_cons pe_int pa_nil)))))
      (pss_cons (ps_for PassesOwn.never rfl (pi_range1 (by rfl) D.B.range (pa_cons (pe_op (r := rAddN) op_AddN pe_int (pe_call G__law_draw hr (by rfl) D._law_draw.g D._law_draw.F.kp D._law_draw.b .nil pass0 (pa_cons (pv 0) (pa_cons pe_int pa_nil)))) pa_nil)) (pg_name (i := 3) sc__law_dividing.nd rfl (.inl rfl)) (pss_cons (ps_set (i := 4) sc__law_dividing.nd rfl (.inl rfl) (pe_op (r := rAddN) op_AddN pe_int (pe_op (r := rModN) op_ModN (pe_callTy call_int1 (by rfl) D.B.int (by decide +kernel) (pa_cons (pe_call G__law_draw hr (by rfl) D._law_draw.g D._law_draw.F.kp D._law_draw.b .nil pass0 (pa_cons (pv 0) (pa_cons pe_int pa_nil))) pa_nil)) (pe_callB (r := rMax2N) (call_max2N rfl) (by rfl) D.B.max (by decide +kernel) (pa_cons pe_int (pa_cons (pe_op (r := rFloorDivN) op_FloorDivN (pv 2) pe_int) pa_nil)))))) (pss_cons (ps_expr (pe_bm PySem.F.plainAttrs_list PySem.F.slot_list_append PySem.F.type_list_append mt_append (pv 1) (pa_cons (pe_tup (pa_cons (pe_callB (r := rMin2N) (call_min2N rfl) (by rfl) D.B.min (by decide +kernel) (pa_cons (pv 4) (pa_cons pe_int pa_nil))) (pa_cons (pv 2) (pa_cons (pe_call G__law_draw hr (by rfl) D._law_draw.g D._law_draw.F.kp D._law_draw.b .nil pass0 (pa_cons (pv 0) (pa_cons (pv 2) pa_nil))) pa_nil)))) pa_nil))) (pss_cons (ps_set (i := 5) sc__law_dividing.nd rfl (.inl rfl) (pe_op (r := rMultN) op_MultN (pv 2) (pe_op (r := rAddN) op_AddN pe_int (pe_call G__law_draw hr (by rfl) D._law_draw.g D._law_draw.F.kp D._law_draw.b .nil pass0 (pa_cons (pv 0) (pa_cons pe_int pa_nil)))))) (pss_one (ps_if (pt_cmpR op_le (pv 5) pe_int (nomark _)) (pss_one (ps_set (i := 2) sc__law_dividing.nd rfl (.inl rfl) (pv 5))) pss_nil))))))
      (pss_cons (ps_set (i := 6) sc__law_dividing.nd rfl (.inl rfl) (pe_ix (r := rIxT K) ix_tup (pe_ix (r := rIxL K) ix_list (pv 1) (pe_op (r := rSubN) op_SubN (pe_callB call_len (by rfl) D.B.len PySem.boot_len (pa_cons (pv 1) pa_nil)) pe_int) (fun _ _ => rfl)) pe_int (fun _ _ => rfl)))
      (pss_cons (ps_for PassesOwn.never rfl (pi_list (pe_slice sl_list (pv 1) po_none (po_some (pe_op (r := rSubN) op_SubN (pe_callB call_len (by rfl) D.B.len PySem.boot_len (pa_cons (pv 1) pa_nil)) pe_int)))) (pg_name (i := 7) sc__law_dividing.nd rfl (.inl rfl)) (pss_one (ps_set (i := 6) sc__law_dividing.nd rfl (.inl rfl) (pe_op op_sub (pv 6) (pe_op (r := rMultN) op_MultN (pe_ix (r := rIxT K) ix_tup (pv 7) pe_int (fun _ _ => rfl)) (pe_op (r := rFloorDivN) op_FloorDivN (pe_ix (r := rIxT K) ix_tup (pe_ix (r := rIxL K) ix_list (pv 1) (pe_op (r := rSubN) op_SubN (pe_callB call_len (by rfl) D.B.len PySem.boot_len (pa_cons (pv 1) pa_nil)) pe_int) (fun _ _ => rfl)) pe_int (fun _ _ => rfl)) (pe_ix (r := rIxT K) ix_tup (pv 7) pe_int (fun _ _ => rfl))))))))
      (pss_cons (ps_set (i := 4) sc__law_dividing.nd rfl (.inl rfl) (pe_op op_add (pv 6) (pe_ix (r := rIxL K) ix_list (pe_lst (pa_cons pe_int (pa_cons pe_int (pa_cons (pe_un un_neg pe_int) (pa_cons pe_int pa_nil))))) (pe_call G__law_draw hr (by rfl) D._law_draw.g D._law_draw.F.kp D._law_draw.b .nil pass0 (pa_cons (pv 0) (pa_cons pe_int pa_nil))) (fun _ _ => rfl))))
      (pss_cons (ps_if (pt_chain op_le op_le pe_int (pv 4) pe_int) (pss_one (ps_asg (pe_tup (pa_cons (pv 4) (pa_cons (pe_ix (r := rIxT K) ix_tup (pe_ix (r := rIxL K) ix_list (pv 1) (pe_op (r := rSubN) op_SubN (pe_callB call_len (by rfl) D.B.len PySem.boot_len (pa_cons (pv 1) pa_nil)) pe_int) (fun _ _ => rfl)) pe_int (fun _ _ => rfl)) (pa_cons (pe_ix (r := rIxT K) ix_tup (pe_ix (r := rIxL K) ix_list (pv 1) (pe_op (r := rSubN) op_SubN (pe_callB call_len (by rfl) D.B.len PySem.boot_len (pa_cons (pv 1) pa_nil)) pe_int) (fun _ _ => rfl)) pe_int (fun _ _ => rfl)) pa_nil)))) (pg_sub (pv 1) (pe_op (r := rSubN) op_SubN (pe_callB call_len (by rfl) D.B.len PySem.boot_len (pa_cons (pv 1) pa_nil)) pe_int) set_list))) pss_nil)
      (pss_one (ps_ret (pv 1)))))))))), ?_⟩
    refine ⟨by decide, fun R nR => ?_⟩
    have hRa := nums_ne hn nR
    have n0 := hn.same (same_upd nR (o := .lst []))
    refine ⟨.ref a, rfl, a, 6, rfl, by decide, n0, fun H1 r hr6 s1 n1 => ⟨1, r, rfl, rfl, ?_⟩⟩
    refine ⟨.ref a, rfl, a, 4, rfl, by decide, n1, fun H2 m hm4 s2 n2 => ⟨1, m, rfl, rfl, ((1 + m : Nat) : Int), rfl, by omega, by omega, ?_⟩⟩
    have s02 := (sameB_of (a := a) (same_upd nR (o := .lst []))).trans (s1.trans s2)
    refine forRg (D := { nx := _, rt := Q }) (n := 1 + m) (fun i σ H' => (∃ c3 c4 c5 c6 c7 p, σ = [some (.ref a), some (.ref R), some (.int (p : Nat)), c3, c4, c5, c6, c7] ∧ 1 ≤ p ∧ p ≤ 24 ∧ SameB a H H' ∧ NumsAt H' a ∧ ∃ js, JobsL H' R js ∧ js.length = i ∧ (∀ j ∈ js, JOk j ∧ j.p ∣ p) ∧ (js.map (·.p)).Pairwise (· ∣ ·))) ?_ ?_ ?_
    · exact ⟨_, _, _, _, _, 1 + r, rfl, by omega, by omega, s02, n2, [], ⟨[], s2 _ _ hRa (s1 _ _ hRa upd_same), .nil⟩, rfl, fun j h => absurd h (by simp), .nil⟩
    · rintro i σ H3 hi ⟨c3, c4, c5, c6, c7, p, rfl, hp1, hp2, s3, n3, js, jl, hlen, hok, hdv⟩
      refine ⟨.ref a, rfl, a, 12, rfl, by decide, n3, fun H4 r4 hr4 s4 n4 => .inl ⟨_, rfl, _, rfl, p, 2, rfl, rfl, by decide, by decide, 1, p / 2, rfl, r4, max 1 (p / 2), rfl, rfl, by omega, 1, _, rfl, rfl, ?_⟩⟩
      have hr1 : 1 ≤ 1 + r4 % max 1 (p / 2) := by omega
      generalize 1 + r4 % max 1 (p / 2) = rg at hr1 ⊢
      refine ⟨.ref R, rfl, .inl ⟨rfl, _, sqL (jl.b n3 hRa s4).choose_spec.1⟩, .int (rg : Nat), rfl, rg, 12, rfl, .int (p : Nat), rfl, .ref a, rfl, .int (p : Nat), rfl, a, p, rfl, hp1, n4, fun H5 r5 hr5 s5 n5 => ⟨by show 3 ≤ sizeLine; decide, fun T nT => ?_⟩⟩
      have sT := same_upd nT (o := .tup [.int ((min rg 12 : Nat) : Int), .int (p : Nat), .int (r5 : Nat)])
      have s35 := s4.trans (s5.trans (sameB_of sT))
      obtain ⟨ts, e, pt⟩ := (jl.b n3 hRa (s4.trans s5)).same sT
      have lts := jt_len pt
      refine ⟨R, ts, _, rfl, rfl, e, by rw [sizeLine_eq]; omega, ?_⟩
      have sA : SameB a H (upd (upd H5 T (.tup [.int ((min rg 12 : Nat) : Int), .int (p : Nat), .int (r5 : Nat)])) R (.lst (ts ++ [.ref T]))) := fun b o hb h => by rw [upd_ne (ne_of_none h nR)]; exact s35 _ _ hb (s3 _ _ hb h)
      have nA := nums_upd (o := .lst (ts ++ [.ref T])) (n5.same sT) hRa
      have jA : JobsL (upd (upd H5 T (.tup [.int ((min rg 12 : Nat) : Int), .int (p : Nat), .int (r5 : Nat)])) R (.lst (ts ++ [.ref T]))) R (js ++ [⟨min rg 12, p, r5⟩]) := JobsL.app e pt upd_same
      generalize upd (upd H5 T (.tup [.int ((min rg 12 : Nat) : Int), .int (p : Nat), .int (r5 : Nat)])) R (.lst (ts ++ [.ref T])) = H6 at sA nA jA ⊢
      refine ⟨.int (p : Nat), rfl, .ref a, rfl, a, 3, rfl, by decide, nA, fun H7 r7 hr7 s7 n7 => ⟨1, r7, rfl, rfl, p, 1 + r7, rfl, rfl, by omega, ?_⟩⟩
      have okA : ∀ j ∈ js ++ [⟨min rg 12, p, r5⟩], JOk j ∧ j.p ∣ p := fun j hj => by
        rcases List.mem_append.mp hj with hj | hj
        · exact hok j hj
        · rw [List.mem_singleton.mp hj]
          exact ⟨⟨by show 1 ≤ min rg 12; omega, by show min rg 12 ≤ 12; omega, hp1, hp2, hr5⟩, Nat.dvd_refl _⟩
      have dvA : ((js ++ [(⟨min rg 12, p, r5⟩ : Job)]).map (·.p)).Pairwise (· ∣ ·) := by
        rw [List.map_append]
        refine List.pairwise_append.mpr ⟨hdv, List.pairwise_singleton _ _, fun x hx y hy => ?_⟩
        obtain ⟨j, hj, rfl⟩ := List.mem_map.mp hx
        rw [List.mem_singleton.mp hy]
        exact (hok j hj).2
      have hlA : (js ++ [(⟨min rg 12, p, r5⟩ : Job)]).length = i + 1 := by rw [List.length_append, hlen]; rfl
      have jB := jA.b nA hRa s7
      have sB := sA.trans s7
      refine ⟨_, rfl, _, 24, rfl, rfl, _, rfl, ?_⟩
      by_cases hle : p * (1 + r7) ≤ 24
      · refine iteTq (decide_eq_true (by omega)) ⟨_, rfl, ⟨_, _, _, _, _, p * (1 + r7), rfl, Nat.mul_pos hp1 (by omega), hle, sB, n7, _, jB, hlA, fun j hj => ⟨(okA j hj).1, Nat.dvd_trans (okA j hj).2 (Nat.dvd_mul_right _ _)⟩, dvA⟩⟩
      · exact iteFq (decide_eq_false (by omega)) ⟨_, _, _, _, _, p, rfl, hp1, hp2, sB, n7, _, jB, hlA, okA, dvA⟩
    · rintro σ H3 ⟨c3, c4, c5, c6, c7, p, rfl, hp1, hp2, s3, n3, js, jl, hlen, hok, hdv⟩
      obtain ⟨ts, e, pt⟩ := id jl
      have lts := jt_len pt
      obtain ⟨b, hb, hj, hbe⟩ := jobs_at pt (show js.length - 1 < js.length by omega)
      have okl := (hok _ (List.mem_of_getElem? hj)).1
      have := okl.p1; have := okl.p2
      refine ⟨.ref R, rfl, .ref R, rfl, .ref R, js.length, rfl, jl.len, js.length, 1, rfl, rfl, by omega, R, ts, _, .ref b, rfl, rfl, sqL e, atI_nat hb, b, _, 1, .int ((jobAt js (js.length - 1)).p : Nat), rfl, rfl, sqT hbe, atI_nat (j := 1) rfl, ?_⟩
      refine ⟨.ref R, rfl, .ref R, rfl, .ref R, js.length, rfl, jl.len, js.length, 1, rfl, rfl, by omega, ((js.length - 1 : Nat) : Int), rfl, R, ts, rfl, sqL e, fun S nS => ⟨S, rfl, ⟨_, sqL upd_same⟩, ?_⟩⟩
      have sS := same_upd nS (o := .lst (cutV ts none (some ((js.length - 1 : Nat) : Int))))
      refine forLs (D := { nx := _, rt := Q }) (xs := cutV ts none (some ((js.length - 1 : Nat) : Int))) (fun i σ H' => (∃ c3 c4 c5 c7 l, σ = [some (.ref a), some (.ref R), some (.int (p : Nat)), c3, c4, c5, some (.int l), c7]) ∧ H' = upd H3 S (.lst (cutV ts none (some ((js.length - 1 : Nat) : Int))))) upd_same ⟨⟨_, _, _, _, _, rfl⟩, rfl⟩ (fun i σ H' h => by rw [h.2, upd_same]) ?_ ?_
      · rintro i x σ H4 hx ⟨⟨c3, c4, c5, c7, l, rfl⟩, rfl⟩
        rw [cut_to, List.getElem?_take] at hx
        split at hx
        case isFalse => cases hx
        obtain ⟨j', b', hj', rfl, hb'⟩ := jobs_got pt hx
        have ok' := (hok _ (List.mem_of_getElem? hj')).1
        have := ok'.r2; have := ok'.p1; have := ok'.p2
        have hb2 := sS _ _ hb'
        have jl4 := jl.same sS
        refine ⟨.int l, rfl, .ref b', rfl, b', _, 0, .int (j'.r : Nat), rfl, rfl, sqT hb2, atI_nat (j := 0) rfl, .ref R, rfl, .ref R, rfl, .ref R, js.length, rfl, jl4.len, js.length, 1, rfl, rfl, by omega, R, ts, _, .ref b, rfl, rfl, sqL (sS _ _ e), atI_nat hb, b, _, 1, .int ((jobAt js (js.length - 1)).p : Nat), rfl, rfl, sqT (sS _ _ hbe), atI_nat (j := 1) rfl, .ref b', rfl, b', _, 1, .int (j'.p : Nat), rfl, rfl, sqT hb2, atI_nat (j := 1) rfl, _, j'.p, rfl, rfl, by omega, by omega, j'.r, _, rfl, rfl, by omega, _, _, rfl, rfl, ⟨⟨_, _, _, _, _, rfl⟩, rfl⟩⟩
      · rintro σ H4 ⟨⟨c3, c4, c5, c7, l, rfl⟩, rfl⟩
        have n4 := n3.same sS
        refine ⟨.int l, rfl, 1, rfl, by show 4 ≤ sizeLine; decide, fun L nL => ⟨.ref a, rfl, a, 4, rfl, by decide, n4.same (same_upd nL), fun H5 r5 hr5 s5 n5 => ?_⟩⟩
        have s35 := (sameB_of (a := a) sS).trans ((sameB_of (same_upd nL (o := .lst [.int 0, .int 1, .int (-1), .int 0]))).trans s5)
        refine pickI (ms := [0, 1, -1, 0]) (s5 _ _ (nums_ne n4 nL) upd_same) hr5 fun v hv => ⟨l, v, rfl, rfl, ?_⟩
        have jl5 := jl.b n3 hRa s35
        obtain ⟨ts5, e5, pt5⟩ := id jl5
        have s05 := s3.trans s35
        refine ⟨.int (l + v), rfl, 1, l + v, rfl, rfl, _, rfl, ?_⟩
        have done : { nx := tRet (tVar 1) { nx := fun x H' => Q V.non H', rt := Q }, rt := Q : Ends }.nx [some (.ref a), some (.ref R), some (.int (p : Nat)), c3, some (.int (l + v)), c5, some (.int l), c7] H5 := ⟨_, rfl, q R H5 js s05 n5 nR jl5 ⟨by omega, by omega, fun j h => (hok j h).1, hdv⟩⟩
        by_cases h1 : 1 ≤ l + v
        case neg => exact iteFq (decide_eq_false (by omega)) ⟨_, rfl, iteF done⟩
        refine iteTq (decide_eq_true (by omega)) ⟨l + v, 12, rfl, rfl, _, rfl, ?_⟩
        by_cases h12 : l + v ≤ 12
        case neg => exact iteFq (decide_eq_false (by omega)) done
        obtain ⟨gn, hgn⟩ : ∃ n : Nat, l + v = (n : Int) := ⟨(l + v).toNat, by omega⟩
        obtain ⟨b5, hb5, hj5, hbe5⟩ := jobs_at pt5 (show js.length - 1 < js.length by omega)
        have lts5 := jt_len pt5
        refine iteTq (decide_eq_true (by omega)) ⟨.int (l + v), rfl, .ref R, rfl, .ref R, rfl, .ref R, js.length, rfl, jl5.len, js.length, 1, rfl, rfl, by omega, R, ts5, _, .ref b5, rfl, rfl, sqL e5, atI_nat hb5, b5, _, 1, .int ((jobAt js (js.length - 1)).p : Nat), rfl, rfl, sqT hbe5, atI_nat (j := 1) rfl, .ref R, rfl, .ref R, rfl, .ref R, js.length, rfl, jl5.len, js.length, 1, rfl, rfl, by omega, R, ts5, _, .ref b5, rfl, rfl, sqL e5, atI_nat hb5, b5, _, 2, .int ((jobAt js (js.length - 1)).o : Nat), rfl, rfl, sqT hbe5, atI_nat (j := 2) rfl, by show 3 ≤ sizeLine; decide, fun T nT => ?_⟩
        generalize hjl : jobAt js (js.length - 1) = jx at *
        have sT := same_upd nT (o := .tup [.int (l + v), .int (jx.p : Nat), .int (jx.o : Nat)])
        have jl6 := jl5.same sT
        refine ⟨.ref R, rfl, .ref R, rfl, .ref R, js.length, rfl, jl6.len, js.length, 1, rfl, rfl, by omega, R, ts5, _, js.length - 1, rfl, rfl, sT _ _ e5, ixN_nat (by omega), _, rfl, ?_⟩
        refine q R _ (js.set (js.length - 1) ⟨gn, jx.p, jx.o⟩) (fun b o hb h => ?_) (nums_upd (n5.same sT) hRa) nR ⟨_, upd_same, ?_⟩ ⟨by rw [List.length_set]; omega, by rw [List.length_set]; omega, fun j hj => ?_, ?_⟩
        · rw [upd_ne (ne_of_none h nR)]
          exact sT _ _ (s05 _ _ hb h)
        · rw [List.map_set]
          exact paired_set (tups_upd (sT _ _ e5) (pt5.same sT)) _ (tup_upd (sT _ _ e5) ⟨T, rfl, by rw [upd_same, hgn]; rfl⟩)
        · rcases List.mem_or_eq_of_mem_set hj with h | h
          · exact (hok j h).1
          · rw [h]
            exact ⟨by show 1 ≤ gn; omega, by show gn ≤ 12; omega, okl.p1, okl.p2, okl.o1⟩
        · rw [List.map_set]
          have : (js.map (·.p)).set (js.length - 1) jx.p = js.map (·.p) := by
            refine List.ext_getElem? fun i => ?_
            rw [List.getElem?_set]
            split
            · rename_i hi
              subst hi
              rw [List.length_map, if_pos (by omega), List.getElem?_map, hj5]
              rfl
            · rfl
          rw [this]
          exact hdv
end
end K7

set_option Elab.async false
set_option linter.all false
set_option maxRecDepth 100000
set_option maxHeartbeats 4000000
namespace K7
open PySem PySem.Spec PyProof.Rows L2 GX NdefX
/-! ### _law_lowest, _law_load, _law_well -/
def EuI (t a b : Nat) : Prop := b = 0 ∨ (∃ s, t = 2 * s ∧ b < 2 ^ (50 - s)) ∨ (∃ s, t = 2 * s + 1 ∧ b < a ∧ a < 2 ^ (50 - s))
theorem euI_step {t a b : Nat} (ht : t < 100) (hb : 0 < b) (h : EuI t a b) : EuI (t + 1) b (a % b) := by
  rcases h with h | ⟨s, rfl, h⟩ | ⟨s, rfl, h1, h2⟩
  · omega
  · exact .inr (.inr ⟨s, rfl, Nat.mod_lt _ hb, h⟩)
  · refine .inr (.inl ⟨s + 1, by omega, ?_⟩)
    have e := Nat.div_add_mod a b
    have q : 1 ≤ a / b := Nat.div_pos (Nat.le_of_lt h1) hb
    have q2 : b ≤ b * (a / b) := Nat.le_mul_of_pos_right _ q
    have hm := Nat.mod_lt a hb
    have e2 : 2 ^ (50 - s) = 2 * 2 ^ (50 - (s + 1)) := by
      rw [show 50 - s = 50 - (s + 1) + 1 by omega, Nat.pow_succ, Nat.mul_comm]
    omega
theorem euI_end {a b : Nat} (h : EuI 100 a b) : b = 0 := by
  rcases h with h | ⟨s, h1, h⟩ | ⟨s, h1, _, _⟩
  · exact h
  · have : s = 50 := by omega
    subst this
    have : b < 1 := h
    omega
  · omega
def spLowest : Sp := fun vs H Q _ => ∃ n d : Nat, vs = [.int n, .int d] ∧ 1 ≤ d ∧ d < 1000000000 ∧ ∀ T H', Same H H' → H' T = some (.tup [.int ((low (n, d)).1 : Nat), .int ((low (n, d)).2 : Nat)]) → Q (.ref T) H'
def spLLoad : Sp := fun vs H Q _ => ∃ (a : Addr) (js : List Job), vs = [.ref a] ∧ JobsT H a js ∧ js.length ≤ 5 ∧ (∀ j ∈ js, JOk j) ∧ ∀ T H', Same H H' → H' T = some (.tup [.int ((low (frac js)).1 : Nat), .int ((low (frac js)).2 : Nat)]) → Q (.ref T) H'
def spWell : Sp := fun vs H Q _ => ∃ (a : Addr) (js : List Job), vs = [.ref a] ∧ JobsT H a js ∧ js.length ≤ 5 ∧ (∀ j ∈ js, JOk j) ∧ ∀ b, (b = true ↔ AllF js) → Q (.bl b) H
theorem wk_le {js : List Job} {i x : Nat} (hok : ∀ j ∈ js, JOk j) (hi : i < js.length) (hl : js.length ≤ 5) (hx : x ≤ 24) : load (js.take i) x ≤ 1440 := by
  have hb : ∀ l : List Job, (∀ j ∈ l, JOk j) → load l x ≤ l.length * (12 * x) := fun l => by
    induction l with
    | nil => intro _; exact Nat.zero_le _
    | cons j l ih =>
      intro h
      have h1 := ih fun j hj => h j (List.mem_cons_of_mem _ hj)
      have h2 : load (j :: l) x = j.r * up x j.p + load l x := by unfold load; rw [List.map_cons, List.sum_cons]
      have h3 := h j List.mem_cons_self
      have h4 : j.r * up x j.p ≤ 12 * x := Nat.mul_le_mul h3.r2 (up_le h3.p1)
      rw [h2, List.length_cons, Nat.succ_mul]
      omega
  have h1 := hb (js.take i) fun j hj => hok j (List.mem_of_mem_take hj)
  have h2 : (js.take i).length * (12 * x) ≤ 5 * (12 * 24) := Nat.mul_le_mul (by rw [List.length_take]; omega) (by omega)
  omega
theorem load_snoc (l : List Job) (j : Job) (t : Nat) : load (l ++ [j]) t = load l t + j.r * up t j.p := by
  unfold load
  rw [List.map_append, List.sum_append]
  rfl
section
variable {P : Program} {w : World} {K : PySem.W.Frag} {mg : Str → Option Value} {base : Heap}
theorem ok_lowest {k : Nat} (D : Pr P K mg) : FnOk P w K mg base CX0 (k + 1) D._law_lowest.f D._law_lowest.fd ["n", "d"] spLowest := by
  refine D._law_lowest.F.ok sc__law_lowest (fun vs H Q E h => ?_) (fun cdv A outer s H vs Q E hr h => ?_)
  · obtain ⟨n, d, rfl, _⟩ := h
    rfl
  · obtain ⟨n, d, rfl, hd1, hd2, q⟩ := h
    refine ⟨_, (pss_cons (ps_set (i := 2) sc__law_lowest.nd rfl (.inl rfl) (pv 0))
      (pss_cons (ps_set (i := 3) sc__law_lowest.nd rfl (.inl rfl) (pv 1))
      (pss_cons (ps_for PassesOwn.never rfl (pi_range1 (by rfl) D.B.range (pa_cons pe_int pa_nil)) (pg_name (i := 4) sc__law_lowest.nd rfl (.inl rfl)) (pss_one (ps_if (pt_cmpR op_gt (pv 3) pe_int (nomark _)) (pss_cons (ps_set (i := 5) sc__law_lowest.nd rfl (.inl rfl) (pe_op (r := rModN) op_ModN (pe_callTy call_int1 (by rfl) D.B.int (by decide +kernel) (pa_cons (pv 2) pa_nil)) (pv 3))) (pss_cons (ps_set (i := 2) sc__law_lowest.nd rfl (.inl rfl) (pv 3)) (pss_one (ps_set (i := 3) sc__law_lowest.nd rfl (.inl rfl) (pv 5))))) pss_nil)))
      (pss_one (ps_ret (pe_tup (pa_cons (pe_op (r := rFloorDivN) op_FloorDivN (pv 0) (pv 2)) (pa_cons (pe_op (r := rFloorDivN) op_FloorDivN (pv 1) (pv 2)) pa_nil)))))))), ?_⟩
    refine ⟨_, rfl, _, rfl, 100, rfl, by decide, by decide, ?_⟩
    refine forRg (D := { nx := _, rt := Q }) (n := 100) (fun i σ H' => (∃ a b c4 c5, σ = [some (.int n), some (.int d), some (.int (a : Nat)), some (.int (b : Nat)), c4, c5] ∧ Nat.gcd a b = Nat.gcd n d ∧ EuI i a b) ∧ H' = H) ?_ ?_ ?_
    · exact ⟨⟨n, d, _, _, rfl, rfl, .inr (.inl ⟨0, rfl, Nat.lt_of_lt_of_le hd2 (by decide)⟩)⟩, rfl⟩
    · rintro i σ H2 hi ⟨⟨a, b, c4, c5, rfl, hg, he⟩, rfl⟩
      refine ⟨_, rfl, b, 0, rfl, rfl, _, rfl, ?_⟩
      by_cases hb : 0 < b
      · refine iteTq (decide_eq_true (by omega)) ⟨_, rfl, .inl ⟨_, rfl, _, rfl, a, b, rfl, rfl, hb, _, rfl, _, rfl, ⟨b, a % b, _, _, rfl, ?_, euI_step hi hb he⟩, rfl⟩⟩
        rw [← hg, Nat.gcd_comm a b, Nat.gcd_rec b a, Nat.gcd_comm]
      · refine iteFq (decide_eq_false (by omega)) ⟨⟨a, b, _, _, rfl, hg, .inl (by omega)⟩, rfl⟩
    · rintro σ H2 ⟨⟨a, b, c4, c5, rfl, hg, he⟩, rfl⟩
      have hb := euI_end he
      subst hb
      rw [Nat.gcd_zero_right] at hg
      have h1 : 1 ≤ a := by rw [hg]; exact Nat.gcd_pos_of_pos_right _ hd1
      have h2 : a ≤ d := by rw [hg]; exact Nat.gcd_le_right _ hd1
      refine ⟨_, rfl, _, rfl, n, a, rfl, rfl, h1, by omega, _, rfl, _, rfl, d, a, rfl, rfl, h1, by omega, by show 2 ≤ sizeLine; decide, fun T nT => q T _ (same_upd nT) ?_⟩
      rw [upd_same, hg]
      rfl
theorem ok_lload {k : Nat} (D : Pr P K mg) : FnOk P w K mg base CX0 (k + 2) D._law_load.f D._law_load.fd ["jobs"] spLLoad := by
  have G__law_lowest : FnOk P w K mg base CX0 (k + 1) D._law_lowest.f D._law_lowest.fd ["n", "d"] spLowest := ok_lowest D
  refine D._law_load.F.ok sc__law_load (fun vs H Q E h => ?_) (fun cdv A outer s H vs Q E hr h => ?_)
  · obtain ⟨a, js, rfl, _⟩ := h
    rfl
  · obtain ⟨a, js, rfl, jt, hl, hok, q⟩ := h
    refine ⟨_, (pss_cons (ps_set (i := 1) sc__law_load.nd rfl (.inl rfl) pe_int)
      (pss_cons (ps_set (i := 2) sc__law_load.nd rfl (.inl rfl) pe_int)
      (pss_cons (ps_for PassesOwn.never rfl (pi_tup (pv 0)) (pg_name (i := 3) sc__law_load.nd rfl (.inl rfl)) (pss_cons (ps_set (i := 1) sc__law_load.nd rfl (.inl rfl) (pe_op (r := rAddN) op_AddN (pe_op (r := rMultN) op_MultN (pv 1) (pe_ix (r := rIxT K) ix_tup (pv 3) pe_int (fun _ _ => rfl))) (pe_op (r := rMultN) op_MultN (pe_ix (r := rIxT K) ix_tup (pv 3) pe_int (fun _ _ => rfl)) (pv 2)))) (pss_one (ps_set (i := 2) sc__law_load.nd rfl (.inl rfl) (pe_op (r := rMultN) op_MultN (pv 2) (pe_ix (r := rIxT K) ix_tup (pv 3) pe_int (fun _ _ => rfl)))))))
      (pss_one (ps_ret (pe_call G__law_lowest hr (by rfl) D._law_lowest.g D._law_lowest.F.kp D._law_lowest.b .nil pass0 (pa_cons (pv 1) (pa_cons (pv 2) pa_nil)))))))), ?_⟩
    obtain ⟨ts, ha, pt⟩ := id jt
    have lts := jt_len pt
    refine ⟨.ref a, rfl, a, rfl, ⟨_, sqT ha⟩, forTt (D := { nx := _, rt := Q }) (fun i σ H' => (∃ c3, σ = [some (.ref a), some (.int ((frac (js.take i)).1 : Nat)), some (.int ((frac (js.take i)).2 : Nat)), c3]) ∧ H' = H) ha ⟨⟨_, rfl⟩, rfl⟩ (fun i σ H' o p e => by rw [p.2]; exact e) ?_ ?_⟩
    · rintro i y σ H2 hy ⟨⟨c3, rfl⟩, rfl⟩
      obtain ⟨j', b, hj', rfl, hb⟩ := jobs_got pt hy
      have ok' := hok j' (List.mem_of_getElem? hj')
      have okt : ∀ j ∈ js.take i, JOk j := fun j h => hok j (List.mem_of_mem_take h)
      have hle := frac_le okt (x := (0, 1)) (k := 0) (by decide) (by decide)
      have hlt : (js.take i).length ≤ 4 := by have := (List.getElem?_eq_some_iff.mp hj').1; rw [List.length_take]; omega
      have p4 : 24 ^ (0 + (js.take i).length) ≤ 24 ^ 4 := Nat.pow_le_pow_right (by decide) (by omega)
      have p4e : 24 ^ 4 = 331776 := by decide
      have h1 : (frac (js.take i)).1 ≤ 12 * 4 * 331776 := by
        have z := Nat.mul_le_mul (show 12 * (0 + (js.take i).length) ≤ 12 * 4 by omega) p4
        rw [p4e] at z
        exact Nat.le_trans hle.1 z
      have h2 : (frac (js.take i)).2 ≤ 331776 := Nat.le_trans hle.2 (by rw [← p4e]; exact p4)
      rw [take_get hj', frac_snoc]
      generalize frac (js.take i) = z at h1 h2 ⊢
      have := ok'.r2
      exact ⟨_, rfl, .ref b, rfl, b, _, 1, .int (j'.p : Nat), rfl, rfl, sqT hb, atI_nat (j := 1) rfl, z.1, j'.p, rfl, rfl, by omega, .ref b, rfl, b, _, 0, .int (j'.r : Nat), rfl, rfl, sqT hb, atI_nat (j := 0) rfl, _, rfl, j'.r, z.2, rfl, rfl, by omega, _, _, rfl, rfl, _, rfl, .ref b, rfl, b, _, 1, .int (j'.p : Nat), rfl, rfl, sqT hb, atI_nat (j := 1) rfl, z.2, j'.p, rfl, rfl, by omega, ⟨_, rfl⟩, rfl⟩
    · rintro σ H2 ⟨⟨c3, rfl⟩, rfl⟩
      rw [lts, List.take_length]
      have hle := frac_le hok (x := (0, 1)) (k := 0) (by decide) (by decide)
      have p5 : 24 ^ (0 + js.length) ≤ 24 ^ 5 := Nat.pow_le_pow_right (by decide) (by omega)
      have p5e : 24 ^ 5 = 7962624 := by decide
      exact ⟨_, rfl, _, rfl, (frac js).1, (frac js).2, rfl, frac_pos hok (by decide), by have := hle.2; unfold frac; omega, fun T H' s' e => q T H' s' e⟩
theorem ok_well {k : Nat} (D : Pr P K mg) : FnOk P w K mg base CX0 (k + 1) D._law_well.f D._law_well.fd ["jobs"] spWell := by
  refine D._law_well.F.ok sc__law_well (fun vs H Q E h => ?_) (fun cdv A outer s H vs Q E hr h => ?_)
  · obtain ⟨a, js, rfl, _⟩ := h
    rfl
  · obtain ⟨a, js, rfl, jt, hl, hok, q⟩ := h
    refine ⟨_, (pss_cons (ps_for PassesOwn.never rfl (pi_range1 (by rfl) D.B.range (pa_cons (pe_callB call_len (by rfl) D.B.len PySem.boot_len (pa_cons (pv 0) pa_nil)) pa_nil)) (pg_name (i := 1) sc__law_well.nd rfl (.inl rfl)) (pss_cons (ps_set (i := 2) sc__law_well.nd rfl (.inl rfl) (pe_ix (r := rIxT K) ix_tup (pe_ix (r := rIxT K) ix_tup (pv 0) (pv 1) (fun _ _ => rfl)) pe_int (fun _ _ => rfl))) (pss_cons (ps_set (i := 3) sc__law_well.nd rfl (.inl rfl) pe_bl) (pss_cons (ps_for PassesOwn.never rfl (pi_range1 (by rfl) D.B.range (pa_cons pe_int pa_nil)) (pg_name (i := 4) sc__law_well.nd rfl (.inl rfl)) (pss_one (ps_if (PW.pt (pw_and (pt_not (pt_val (pv 3))) (pw_and1 (pt_cmpR op_le (pv 2) (pe_ix (r := rIxT K) ix_tup (pe_ix (r := rIxT K) ix_tup (pv 0) (pv 1) (fun _ _ => rfl)) pe_int (fun _ _ => rfl)) (nomark _))))) (pss_cons (ps_set (i := 5) sc__law_well.nd rfl (.inl rfl) (pe_ix (r := rIxT K) ix_tup (pe_ix (r := rIxT K) ix_tup (pv 0) (pv 1) (fun _ _ => rfl)) pe_int (fun _ _ => rfl))) (pss_cons (ps_for PassesOwn.never rfl (pi_range1 (by rfl) D.B.range (pa_cons (pv 1) pa_nil)) (pg_name (i := 6) sc__law_well.nd rfl (.inl rfl)) (pss_one (ps_set (i := 5) sc__law_well.nd rfl (.inl rfl) (pe_op (r := rAddN) op_AddN (pv 5) (pe_op (r := rMultN) op_MultN (pe_ix (r := rIxT K) ix_tup (pe_ix (r := rIxT K) ix_tup (pv 0) (pv 6) (fun _ _ => rfl)) pe_int (fun _ _ => rfl)) (pe_callTy call_int1 (by rfl) D.B.int (by decide +kernel) (pa_cons (pe_op (r := rFloorDivN) op_FloorDivN (pe_op (r := rSubN) op_SubN (pe_op (r := rAddN) op_AddN (pv 2) (pe_ix (r := rIxT K) ix_tup (pe_ix (r := rIxT K) ix_tup (pv 0) (pv 6) (fun _ _ => rfl)) pe_int (fun _ _ => rfl))) pe_int) (pe_ix (r := rIxT K) ix_tup (pe_ix (r := rIxT K) ix_tup (pv 0) (pv 6) (fun _ _ => rfl)) pe_int (fun _ _ => rfl))) pa_nil))))))) (pss_cons (ps_set (i := 3) sc__law_well.nd rfl (.inl rfl) (pe_cmpR op_eq (pv 5) (pv 2) (nomark _))) (pss_one (ps_set (i := 2) sc__law_well.nd rfl (.inl rfl) (pv 5)))))) pss_nil))) (pss_one (ps_if (pt_not (pt_val (pv 3))) (pss_one (ps_ret pe_bl)) pss_nil))))))
      (pss_one (ps_ret pe_bl))), ?_⟩
    obtain ⟨ts, ha, pt⟩ := id jt
    have lts := jt_len pt
    refine ⟨.ref a, rfl, .ref a, js.length, rfl, .inr ⟨_, sqT ha, lts.symm⟩, (js.length : Int), rfl, by omega, by omega, ?_⟩
    refine forRg (D := { nx := _, rt := Q }) (n := js.length) (fun i σ H' => (∃ c1 c2 c3 c4 c5 c6, σ = [some (.ref a), c1, c2, c3, c4, c5, c6]) ∧ H = H' ∧ ∀ l, l < i → Feas js l) ⟨⟨_, _, _, _, _, _, rfl⟩, rfl, fun l h => absurd h (by omega)⟩ ?_ ?_
    · rintro i σ H2 hi ⟨⟨c1, c2, c3, c4, c5, c6, rfl⟩, rfl, hf⟩
      obtain ⟨b, hb, hj, hbe⟩ := jobs_at pt hi
      have jok := hok _ (List.mem_of_getElem? hj)
      have := jok.r1; have := jok.r2; have := jok.p1; have := jok.p2
      refine ⟨.ref a, rfl, .int i, rfl, a, ts, i, .ref b, rfl, rfl, sqT ha, atI_nat hb, b, _, 0, .int ((jobAt js i).r : Nat), rfl, rfl, sqT hbe, atI_nat (j := 0) rfl, 60, rfl, by decide, by decide, ?_⟩
      refine forRg (D := { nx := _, rt := Q }) (n := 60) (fun t σ H' => (∃ last st c4 c5 c6, σ = [some (.ref a), some (.int (i : Nat)), some (.int (last : Nat)), some (.bl st), c4, c5, c6] ∧ 1 ≤ last ∧ last ≤ 2000 ∧
        (st = true → wk js i last = last ∧ last ≤ (jobAt js i).p) ∧ (st = false → last ≤ wk js i last ∧ ((jobAt js i).p < last ∨ t + 1 ≤ last) ∧ ∀ u, 1 ≤ u → wk js i u ≤ u → last ≤ u)) ∧ H = H') ?_ ?_ ?_
      · exact ⟨⟨_, false, _, _, _, rfl, by omega, by omega, fun z => (by cases z), fun _ => ⟨wk_ge _ _ _, by omega, fun u _ h => Nat.le_trans (wk_ge _ _ _) h⟩⟩, rfl⟩
      · rintro t σ H3 ht ⟨⟨last, st, c4, c5, c6, rfl, hl1, hl2, hT, hF⟩, rfl⟩
        refine ⟨_, rfl, st, rfl, ?_⟩
        cases st with
        | true => exact iteFq rfl ⟨⟨last, true, _, _, _, rfl, hl1, hl2, hT, fun z => nomatch z⟩, rfl⟩
        | false =>
          obtain ⟨hw, hlt, hle⟩ := hF rfl
          refine iteTq rfl ⟨_, rfl, .ref a, rfl, .int i, rfl, a, ts, i, .ref b, rfl, rfl, sqT ha, atI_nat hb, b, _, 1, .int ((jobAt js i).p : Nat), rfl, rfl, sqT hbe, atI_nat (j := 1) rfl, _, _, rfl, rfl, _, rfl, ?_⟩
          by_cases hp : last ≤ (jobAt js i).p
          case neg => exact iteFq (decide_eq_false (by omega)) ⟨⟨last, false, _, _, _, rfl, hl1, hl2, hT, fun _ => ⟨hw, .inl (by omega), hle⟩⟩, rfl⟩
          refine iteTq (decide_eq_true (by omega)) ⟨.ref a, rfl, .int i, rfl, a, ts, i, .ref b, rfl, rfl, sqT ha, atI_nat hb, b, _, 0, .int ((jobAt js i).r : Nat), rfl, rfl, sqT hbe, atI_nat (j := 0) rfl, _, rfl, (i : Int), rfl, by omega, by omega, ?_⟩
          have hwl := wk_le hok hi hl (show last ≤ 24 by omega)
          refine forRg (D := { nx := _, rt := Q }) (n := i) (fun m σ H' => (∃ c6, σ = [some (.ref a), some (.int (i : Nat)), some (.int (last : Nat)), some (.bl false), some (.int (t : Nat)), some (.int (((jobAt js i).r + load (js.take m) last : Nat) : Int)), c6]) ∧ H = H') ⟨⟨_, rfl⟩, rfl⟩ ?_ ?_
          · rintro m σ H4 hm ⟨⟨c6, rfl⟩, rfl⟩
            obtain ⟨b2, hb2, hj2, hbe2⟩ := jobs_at pt (show m < js.length by omega)
            have ok2 := hok _ (List.mem_of_getElem? hj2)
            have := ok2.r2; have := ok2.p1; have := ok2.p2
            have hix : ∀ (v : V) (n : Nat) (Q : VK), (jv (jobAt js m))[n]? = some v → Q v H → tOp (rIxT K) (tOp (rIxT K) (tVar 0) (tVar 6)) (tC (.int (n : Nat))) [some (.ref a), some (.int (i : Nat)), some (.int (last : Nat)), some (.bl false), some (.int (t : Nat)), some (.int (((jobAt js i).r + load (js.take m) last : Nat) : Int)), some (.int (m : Nat))] H Q := fun v n Q hv q =>
              ⟨.ref a, rfl, .int m, rfl, a, ts, m, .ref b2, rfl, rfl, sqT ha, atI_nat hb2, b2, _, n, v, rfl, rfl, sqT hbe2, atI_nat hv, q⟩
            refine ⟨_, rfl, hix _ 0 _ rfl ⟨_, rfl, hix _ 1 _ rfl ⟨last, (jobAt js m).p, rfl, rfl, _, 1, rfl, rfl, by omega, hix _ 1 _ rfl ⟨_, (jobAt js m).p, rfl, rfl, by omega, by omega, .inl ⟨_, rfl, (jobAt js m).r, up last (jobAt js m).p, rfl, rfl, by omega, _, _, rfl, rfl, ?_⟩⟩⟩⟩⟩
            rw [take_get hj2, load_snoc, ← Nat.add_assoc]
            exact ⟨⟨_, rfl⟩, rfl⟩
          · rintro σ H4 ⟨⟨c6, rfl⟩, rfl⟩
            refine ⟨_, rfl, _, rfl, rfl, _, rfl, ?_⟩
            refine ⟨⟨wk js i last, decide (wk js i last = last), some (.int (t : Nat)), some (.int (((jobAt js i).r + load (js.take i) last : Nat) : Int)), c6, ?_, by omega, by unfold wk; omega, fun z => ?_, fun z => ?_⟩, rfl⟩
            · have e : decide (V.int (((jobAt js i).r + load (js.take i) last : Nat) : Int) = V.int (last : Nat)) = decide (wk js i last = last) := decide_eq_decide.mpr ⟨fun z => by have z := V.int.inj z; unfold wk; omega, fun z => congrArg V.int (by unfold wk at z; omega)⟩
              rw [← e]
              rfl
            · have z := of_decide_eq_true z
              rw [z]
              exact ⟨z, hp⟩
            · have z := of_decide_eq_false z
              exact ⟨wk_mono hw, .inr (by omega), fun u h1 h2 => Nat.le_trans (wk_mono (hle u h1 h2)) h2⟩
      · rintro σ H3 ⟨⟨last, st, c4, c5, c6, rfl, hl1, hl2, hT, hF⟩, rfl⟩
        refine ⟨_, rfl, st, rfl, ?_⟩
        cases st with
        | true =>
          refine iteFq rfl ⟨⟨_, _, _, _, _, _, rfl⟩, rfl, fun l h => ?_⟩
          by_cases e : l = i
          · subst e
            obtain ⟨h1, h2⟩ := hT rfl
            exact ⟨last, hl1, h2, by omega⟩
          · exact hf l (by omega)
        | false =>
          obtain ⟨hw, hlt, hle⟩ := hF rfl
          refine iteTq rfl (q false ⟨fun z => (by cases z), fun z => ?_⟩)
          obtain ⟨u, h1, h2, h3⟩ := z i hi
          have := hle u h1 h3
          omega
    · rintro σ H2 ⟨_, rfl, hf⟩
      exact q true ⟨fun _ => hf, fun _ => rfl⟩
end
end K7

set_option Elab.async false
set_option linter.all false
set_option maxRecDepth 100000
set_option maxHeartbeats 4000000
namespace K7
/-! ### all orders; the law's own order by periods: the mathematics -/
def insAt (k : Nat) (o : List Nat) (t : Nat) : List Nat := o.take t ++ [k] ++ o.drop t
def insL (k : Nat) (o : List Nat) : List (List Nat) := (List.range (o.length + 1)).map (insAt k o)
def ordF : Nat → List (List Nat)
  | 0 => [[]]
  | k + 1 => (ordF k).flatMap (insL k)
theorem insAt_perm (k : Nat) (o : List Nat) (t : Nat) : (insAt k o t).Perm (k :: o) := by
  unfold insAt
  rw [List.append_assoc, List.singleton_append]
  refine List.perm_middle.trans ?_
  rw [List.take_append_drop]
theorem range_snoc_perm (k : Nat) {o : List Nat} (h : o.Perm (List.range k)) : (k :: o).Perm (List.range (k + 1)) := by
  rw [List.range_succ]
  exact (h.cons k).trans (List.perm_append_singleton k _).symm
theorem ordF_perm : ∀ {n : Nat} {o : List Nat}, o ∈ ordF n → o.Perm (List.range n)
  | 0, o, h => by
    have h : o ∈ [([] : List Nat)] := h
    rw [List.mem_singleton.mp h]
    exact List.Perm.refl _
  | k + 1, o, h => by
    obtain ⟨o', ho, h⟩ := List.mem_flatMap.mp (show o ∈ (ordF k).flatMap (insL k) from h)
    obtain ⟨t, _, rfl⟩ := List.mem_map.mp h
    exact (insAt_perm k o' t).trans (range_snoc_perm k (ordF_perm ho))
theorem ordF_mem : ∀ {n : Nat} {o : List Nat}, o.Perm (List.range n) → o ∈ ordF n
  | 0, o, h => by
    have e : o = [] := List.Perm.eq_nil h
    rw [e]
    exact List.mem_singleton_self _
  | k + 1, o, h => by
    have hk : k ∈ o := h.mem_iff.mpr (List.mem_range.mpr (Nat.lt_succ_self k))
    obtain ⟨s, t, rfl⟩ := List.append_of_mem hk
    have h2 : (s ++ t).Perm (List.range k) := by
      have h3 : (k :: (s ++ t)).Perm (k :: List.range k) := (List.perm_middle.symm.trans h).trans (by rw [List.range_succ]; exact List.perm_append_singleton k _)
      exact h3.cons_inv
    refine List.mem_flatMap.mpr ⟨s ++ t, ordF_mem h2, List.mem_map.mpr ⟨s.length, List.mem_range.mpr (by rw [List.length_append]; omega), ?_⟩⟩
    unfold insAt
    rw [List.take_left, List.drop_left, List.append_assoc]
    rfl
theorem ordF_len {n : Nat} {o : List Nat} (h : o ∈ ordF n) : o.length = n := by
  rw [(ordF_perm h).length_eq, List.length_range]
theorem ordF_many : ∀ k, k ≤ 4 → (ordF k).length ≤ 24 := by decide
def lawP (js : List Job) (q : Nat) : List Nat := (List.range q).flatMap fun i => (List.range js.length).filter fun k => (jobAt js k).p == 1 + i
theorem lawP_succ (js : List Job) (q : Nat) : lawP js (q + 1) = lawP js q ++ (List.range js.length).filter fun k => (jobAt js k).p == 1 + q := by
  unfold lawP
  rw [List.range_succ, List.flatMap_append]
  simp
theorem lawP_mem {js : List Job} {q k : Nat} : k ∈ lawP js q ↔ k < js.length ∧ 1 ≤ (jobAt js k).p ∧ (jobAt js k).p ≤ q := by
  unfold lawP
  rw [List.mem_flatMap]
  constructor
  · rintro ⟨i, hi, h⟩
    obtain ⟨h1, h2⟩ := List.mem_filter.mp h
    have h2 := beq_iff_eq.mp h2
    have := List.mem_range.mp hi
    exact ⟨List.mem_range.mp h1, by omega, by omega⟩
  · rintro ⟨h1, h2, h3⟩
    exact ⟨(jobAt js k).p - 1, List.mem_range.mpr (by omega), List.mem_filter.mpr ⟨List.mem_range.mpr h1, beq_iff_eq.mpr (by omega)⟩⟩
theorem lawP_sorted (js : List Job) : ∀ q, (lawP js q).Pairwise fun a b => (jobAt js a).p < (jobAt js b).p ∨ ((jobAt js a).p = (jobAt js b).p ∧ a < b)
  | 0 => .nil
  | q + 1 => by
    rw [lawP_succ]
    refine List.pairwise_append.mpr ⟨lawP_sorted js q, ?_, fun a ha b hb => ?_⟩
    · refine (List.Pairwise.and_mem.mp (List.Pairwise.filter _ (List.pairwise_lt_range (n := js.length)))).imp fun {a b} h => ?_
      obtain ⟨ha, hb, hab⟩ := h
      have h1 := beq_iff_eq.mp (List.mem_filter.mp ha).2
      have h2 := beq_iff_eq.mp (List.mem_filter.mp hb).2
      exact .inr ⟨by omega, hab⟩
    · obtain ⟨_, h1, h2⟩ := lawP_mem.mp ha
      have h3 := beq_iff_eq.mp (List.mem_filter.mp hb).2
      exact .inl (by omega)
theorem lawP_byP {js : List Job} (h : ∀ j ∈ js, JOk j) : lawP js 24 = byP js := by
  have s := lawP_sorted js 24
  refine byP_eq ?_ (s.imp fun h => by omega)
  refine (List.perm_ext_iff_of_nodup (s.imp fun {a b} h => by rintro rfl; omega) List.nodup_range).mpr fun k => ?_
  rw [lawP_mem, List.mem_range]
  refine ⟨fun z => z.1, fun z => ⟨z, ?_⟩⟩
  have hk : js[k]? = some (jobAt js k) := by
    unfold jobAt
    rw [List.getD_eq_getElem?_getD, List.getElem?_eq_getElem z]
    rfl
  have := h _ (List.mem_of_getElem? hk)
  exact ⟨this.p1, this.p2⟩
theorem lawP_le (js : List Job) (q : Nat) : (lawP js q).length ≤ js.length := by
  have s := lawP_sorted js q
  have nd : (lawP js q).Nodup := s.imp fun {a b} h => by rintro rfl; omega
  have := List.Nodup.length_le_of_subset nd (l₂ := List.range js.length) fun k hk => List.mem_range.mpr (lawP_mem.mp hk).1
  rw [List.length_range] at this
  exact this
end K7

set_option Elab.async false
set_option linter.all false
set_option maxRecDepth 100000
set_option maxHeartbeats 4000000
namespace K7
open PySem PySem.Spec PyProof.Rows L2 GX NdefX
/-! ### _law_orders, _law_by_periods, _law_refused -/
def spOrders : Sp := fun vs H Q _ => ∃ n : Nat, vs = [.int n] ∧ n ≤ 4 ∧ ∀ D H' ts, Same H H' → H D = none → H' D = some (.lst ts) → TupsT H' ts ((ordF n).map nts) → Q (.ref D) H'
def spLByP : Sp := fun vs H Q _ => ∃ (a : Addr) (js : List Job), vs = [.ref a] ∧ JobsT H a js ∧ js.length ≤ 5 ∧ (∀ j ∈ js, JOk j) ∧ ∀ T H', Same H H' → H' T = some (.tup (nts (byP js))) → Q (.ref T) H'
def chkW : Chk → Str
  | .num => "jobs"
  | .many => "5"
  | .ok _ => ""
def spRefused : Sp := fun vs H Q _ => ∃ (w : Nat) (x : V) (j : Option (List (Option (List Int)))), vs = [.int w, x] ∧ JbAt H x j ∧ ∀ H', Same H H' → Q (.str (chkW (chk j))) H'
theorem nts_take (l : List Nat) (i : Nat) : (nts l).take i = nts (l.take i) := (List.map_take).symm
theorem nts_drop (l : List Nat) (i : Nat) : (nts l).drop i = nts (l.drop i) := (List.map_drop).symm
section
variable {P : Program} {w : World} {K : PySem.W.Frag} {mg : Str → Option Value} {base : Heap}
theorem ok_orders {k : Nat} (D : Pr P K mg) : FnOk P w K mg base CX0 (k + 1) D._law_orders.f D._law_orders.fd ["many"] spOrders := by
  refine D._law_orders.F.ok sc__law_orders (fun vs H Q E h => ?_) (fun cdv A outer s H vs Q E hr h => ?_)
  · obtain ⟨n, rfl, _⟩ := h
    rfl
  · obtain ⟨n, rfl, hn, q⟩ := h
    refine ⟨_, (pss_cons (ps_set (i := 1) sc__law_orders.nd rfl (.inl rfl) (pe_lst (pa_cons (pe_tup pa_nil) pa_nil)))
      (pss_cons (ps_for PassesOwn.never rfl (pi_range1 (by rfl) D.B.range (pa_cons (pv 0) pa_nil)) (pg_name (i := 2) sc__law_orders.nd rfl (.inl rfl)) (pss_cons (ps_set (i := 3) sc__law_orders.nd rfl (.inl rfl) (pe_lst pa_nil)) (pss_cons (ps_for PassesOwn.never rfl (pi_list (pv 1)) (pg_name (i := 4) sc__law_orders.nd rfl (.inl rfl)) (pss_one (ps_for PassesOwn.never rfl (pi_range1 (by rfl) D.B.range (pa_cons (pe_op (r := rAddN) op_AddN (pe_callB call_len (by rfl) D.B.len PySem.boot_len (pa_cons (pv 4) pa_nil)) pe_int) pa_nil)) (pg_name (i := 5) sc__law_orders.nd rfl (.inl rfl)) (pss_one (ps_expr (pe_bm PySem.F.plainAttrs_list PySem.F.slot_list_append PySem.F.type_list_append mt_append (pv 3) (pa_cons (pe_op (r := rCatA K) op_catA (pe_op (r := rCatA K) op_catA (pe_slice sl_tupA (pv 4) po_none (po_some (pv 5))) (pe_tup (pa_cons (pv 2) pa_nil))) (pe_slice sl_tupA (pv 4) (po_some (pv 5)) po_none)) pa_nil))))))) (pss_one (ps_set (i := 1) sc__law_orders.nd rfl (.inl rfl) (pe_callTy call_list_of (by rfl) D.B.list (by decide +kernel) (pa_cons (pv 3) pa_nil)))))))
      (pss_one (ps_ret (pv 1))))), ?_⟩
    refine ⟨Nat.zero_le _, fun T0 nT0 => ⟨by show 1 ≤ sizeLine; decide, fun O nO => ?_⟩⟩
    have s0 := (same_upd nT0 (o := .tup [])).trans (same_upd nO (o := .lst [.ref T0]))
    refine ⟨_, rfl, (n : Int), rfl, by omega, by omega, ?_⟩
    refine forRg (D := { nx := _, rt := Q }) (n := n) (fun i σ H' => ∃ O c2 c3 c4 c5, σ = [some (.int n), some (.ref O), c2, c3, c4, c5] ∧ Same H H' ∧ H O = none ∧ ∃ ts, H' O = some (.lst ts) ∧ TupsT H' ts ((ordF i).map nts)) ?_ ?_ ?_
    · exact ⟨O, _, _, _, _, rfl, s0, none_of_same (same_upd nT0) nO, _, upd_same, .cons ⟨T0, rfl, same_upd nO _ _ upd_same⟩ .nil⟩
    · rintro i σ H1 hi ⟨O, c2, c3, c4, c5, rfl, s1, nO, ts, eO, pt⟩
      refine ⟨Nat.zero_le _, fun L nL => ?_⟩
      have sL := same_upd nL (o := .lst [])
      have lts : ts.length = (ordF i).length := by have := pt.length; rw [List.length_map] at this; exact this
      have hm := ordF_many i (by omega)
      have hOL : O ≠ L := ne_of_none eO nL
      refine ⟨.ref O, rfl, O, rfl, ⟨_, sqL (sL _ _ eO)⟩, ?_⟩
      have hin : ∀ j o, (ordF i)[j]? = some o → (insL i o).length = i + 1 := fun j o h => by
        unfold insL
        rw [List.length_map, List.length_range, ordF_len (List.mem_of_getElem? h)]
      have hfl : ∀ j, j ≤ (ordF i).length → (((ordF i).take j).flatMap (insL i)).length = j * (i + 1) := fun j => by
        induction j with
        | zero => intro _; rw [List.take_zero, Nat.zero_mul]; rfl
        | succ j ih =>
          intro h
          have hg : (ordF i)[j]? = some (ordF i)[j] := List.getElem?_eq_getElem (by omega)
          rw [take_get hg, List.flatMap_append, List.length_append, ih (by omega), Nat.succ_mul]
          have := hin j _ hg
          simp [this]
      refine forLs (D := { nx := _, rt := Q }) (xs := ts) (fun j σ H' => (∃ c4 c5, σ = [some (.int n), some (.ref O), some (.int (i : Nat)), some (.ref L), c4, c5]) ∧ Same H H' ∧ H' O = some (.lst ts) ∧ TupsT H' ts ((ordF i).map nts) ∧ ∃ us, H' L = some (.lst us) ∧ TupsT H' us ((((ordF i).take j).flatMap (insL i)).map nts)) (sL _ _ eO)
        ⟨⟨_, _, rfl⟩, s1.trans sL, sL _ _ eO, pt.same sL, [], upd_same, .nil⟩ (fun j σ H' h => h.2.2.1) ?_ ?_
      · rintro j x σ H2 hx ⟨⟨c4, c5, rfl⟩, s2, eO2, pt2, us, eL, pu⟩
        obtain ⟨vs, b, hv, rfl, hb⟩ := tups_got pt2 hx
        rw [List.getElem?_map] at hv
        obtain ⟨o, ho, rfl⟩ := Option.map_eq_some_iff.mp hv
        have hol := ordF_len (List.mem_of_getElem? ho)
        have hj : j < (ordF i).length := (List.getElem?_eq_some_iff.mp ho).1
        refine ⟨.ref b, rfl, .ref b, o.length, rfl, .inr ⟨_, sqT hb, (nts_len o).symm⟩, o.length, 1, rfl, rfl, ((o.length + 1 : Nat) : Int), rfl, by omega, by omega, ?_⟩
        refine forRg (D := { nx := _, rt := Q }) (n := o.length + 1) (fun m σ H' => (∃ c5, σ = [some (.int n), some (.ref O), some (.int (i : Nat)), some (.ref L), some (.ref b), c5]) ∧ Same H H' ∧ H' O = some (.lst ts) ∧ TupsT H' ts ((ordF i).map nts) ∧ H' b = some (.tup (nts o)) ∧ ∃ us, H' L = some (.lst us) ∧ TupsT H' us ((((ordF i).take j).flatMap (insL i) ++ (List.range m).map (insAt i o)).map nts))
          ⟨⟨_, rfl⟩, s2, eO2, pt2, hb, us, eL, by rw [List.range_zero, List.map_nil, List.append_nil]; exact pu⟩ ?_ ?_
        · rintro m σ H3 hmo ⟨⟨c5, rfl⟩, s3, eO3, pt3, hb3, us3, eL3, pu3⟩
          refine ⟨.ref L, rfl, .inl ⟨rfl, _, sqL eL3⟩, .ref b, rfl, .int m, rfl, (m : Nat), rfl, slA hb3 fun S1 H4 s4 e4 => ?_⟩
          rw [cut_to, nts_take] at e4
          refine ⟨.int i, rfl, by show 1 ≤ sizeLine; decide, fun U nU => ?_⟩
          have sU := same_upd nU (o := .tup [.int i])
          refine catA (sU _ _ e4) upd_same (by rw [nts_len, List.length_take]; show min m o.length + 1 ≤ 1000; omega) fun S2 H5 s5 e5 => ?_
          have s35 := s4.trans (sU.trans s5)
          refine ⟨.ref b, rfl, .int m, rfl, (m : Nat), rfl, ?_⟩
          delta tNoPart
          refine slA (s35 _ _ hb3) fun S3 H6 s6 e6 => ?_
          rw [cut_from, nts_drop] at e6
          refine catA (s6 _ _ e5) e6 (by rw [List.length_append, nts_len, nts_len, List.length_take, List.length_drop]; show min m o.length + 1 + _ ≤ 1000; omega) fun S4 H7 s7 e7 => ?_
          have s37 := s35.trans (s6.trans s7)
          have e7 : H7 S4 = some (.tup (nts (insAt i o m))) := by
            rw [e7]
            unfold insAt nts
            rw [List.map_append, List.map_append]
            rfl
          have eL7 := s37 _ _ eL3
          have lu : us3.length = j * (i + 1) + m := by
            have := pu3.length
            rw [List.length_map, List.length_append, hfl j (by omega), List.length_map, List.length_range] at this
            exact this
          have hb5 : j * (i + 1) ≤ 24 * 5 := Nat.mul_le_mul (by omega) (by omega)
          refine ⟨L, us3, _, rfl, rfl, eL7, by rw [sizeLine_eq]; omega, ⟨_, rfl⟩, fun b o e => ?_, ?_, ?_, ?_, us3 ++ [.ref S4], upd_same, ?_⟩
          · rw [upd_ne (ne_of_none (s1 _ _ e) nL)]
            exact s37 _ _ (s3 _ _ e)
          · rw [upd_ne hOL]
            exact s37 _ _ eO3
          · exact tups_upd eL7 (pt3.same s37)
          · rw [upd_ne (fun z => by have h := s37 _ _ hb3; rw [z, eL7] at h; cases h)]
            exact s37 _ _ hb3
          · have e : ((ordF i).take j).flatMap (insL i) ++ (List.range (m + 1)).map (insAt i o) = (((ordF i).take j).flatMap (insL i) ++ (List.range m).map (insAt i o)) ++ [insAt i o m] := by rw [List.range_succ, List.map_append, ← List.append_assoc]; rfl
            rw [e, List.map_append]
            exact paired_app (tups_upd eL7 (pu3.same s37)) (.cons (tup_upd eL7 ⟨S4, rfl, e7⟩) .nil)
        · rintro σ H3 ⟨⟨c5, rfl⟩, s3, eO3, pt3, hb3, us3, eL3, pu3⟩
          refine ⟨⟨_, _, rfl⟩, s3, eO3, pt3, us3, eL3, ?_⟩
          rw [take_get ho, List.flatMap_append]
          have e : List.flatMap (insL i) [o] = insL i o := by simp
          rw [e]
          exact pu3
      · rintro σ H2 ⟨⟨c4, c5, rfl⟩, s2, eO2, pt2, us, eL, pu⟩
        refine ⟨.ref L, rfl, L, us, rfl, .inl (sqL eL), fun O2 nO2 => ⟨O2, _, _, _, _, rfl, s2.trans (same_upd nO2), none_of_same s2 nO2, us, upd_same, ?_⟩⟩
        rw [lts, List.take_length] at pu
        exact pu.same (same_upd nO2)
    · rintro σ H1 ⟨O, c2, c3, c4, c5, rfl, s1, nO, ts, eO, pt⟩
      exact ⟨_, rfl, q O H1 ts s1 nO eO pt⟩
theorem ok_lbyP {k : Nat} (D : Pr P K mg) : FnOk P w K mg base CX0 (k + 1) D._law_by_periods.f D._law_by_periods.fd ["jobs"] spLByP := by
  refine D._law_by_periods.F.ok sc__law_by_periods (fun vs H Q E h => ?_) (fun cdv A outer s H vs Q E hr h => ?_)
  · obtain ⟨a, js, rfl, _⟩ := h
    rfl
  · obtain ⟨a, js, rfl, jt, hl, hok, q⟩ := h
    refine ⟨_, (pss_cons (ps_set (i := 1) sc__law_by_periods.nd rfl (.inl rfl) (pe_lst pa_nil))
      (pss_cons (ps_for PassesOwn.never rfl (pi_range2 (by rfl) D.B.range (pa_cons pe_int (pa_cons pe_int pa_nil))) (pg_name (i := 2) sc__law_by_periods.nd rfl (.inl rfl)) (pss_one (ps_for PassesOwn.never rfl (pi_range1 (by rfl) D.B.range (pa_cons (pe_callB call_len (by rfl) D.B.len PySem.boot_len (pa_cons (pv 0) pa_nil)) pa_nil)) (pg_name (i := 3) sc__law_by_periods.nd rfl (.inl rfl)) (pss_one (ps_if (pt_cmpR op_eq (pe_ix (r := rIxT K) ix_tup (pe_ix (r := rIxT K) ix_tup (pv 0) (pv 3) (fun _ _ => rfl)) pe_int (fun _ _ => rfl)) (pv 2) (nomark _)) (pss_one (ps_expr (pe_bm PySem.F.plainAttrs_list PySem.F.slot_list_append PySem.F.type_list_append mt_append (pv 1) (pa_cons (pv 3) pa_nil)))) pss_nil)))))
      (pss_one (ps_ret (pe_callTy call_tuple_of (by rfl) D.B.tuple (by decide +kernel) (pa_cons (pv 1) pa_nil)))))), ?_⟩
    refine ⟨Nat.zero_le _, fun R nR => ⟨1, 25, rfl, ⟨by decide, by decide, by decide, by decide⟩, ?_⟩⟩
    refine forRgL (lo := 1) (D := { nx := _, rt := Q }) (n := 24) (fun i σ H' => (∃ c2 c3, σ = [some (.ref a), some (.ref R), c2, c3]) ∧ Same H H' ∧ H' R = some (.lst (nts (lawP js i)))) ⟨⟨_, _, rfl⟩, same_upd nR, upd_same⟩ ?_ ?_
    · rintro i σ H1 hi ⟨⟨c2, c3, rfl⟩, s1, eR⟩
      obtain ⟨ts, ha, pt⟩ := jt.same s1
      refine ⟨.ref a, rfl, .ref a, js.length, rfl, .inr ⟨_, sqT ha, (jt_len pt).symm⟩, (js.length : Int), rfl, by omega, by omega, ?_⟩
      refine forRg (D := { nx := _, rt := Q }) (n := js.length) (fun m σ H' => (∃ c3, σ = [some (.ref a), some (.ref R), some (.int ((1 + i : Nat) : Int)), c3]) ∧ Same H H' ∧ H' R = some (.lst (nts (lawP js i ++ (List.range m).filter fun k => (jobAt js k).p == 1 + i)))) ⟨⟨_, rfl⟩, s1, by rw [List.range_zero, List.filter_nil, List.append_nil]; exact eR⟩ ?_ ?_
      · rintro m σ H2 hm ⟨⟨c3, rfl⟩, s2, eR2⟩
        obtain ⟨ts, ha, pt⟩ := jt.same s2
        obtain ⟨b, hb, hj, hbe⟩ := jobs_at pt hm
        refine ⟨.ref a, rfl, .int m, rfl, a, ts, m, .ref b, rfl, rfl, sqT ha, atI_nat hb, b, _, 1, .int ((jobAt js m).p : Nat), rfl, rfl, sqT hbe, atI_nat (j := 1) rfl, _, rfl, rfl, _, rfl, ?_⟩
        have hll : (nts (lawP js i ++ (List.range m).filter fun k => (jobAt js k).p == 1 + i)).length ≤ 1000 := by
          rw [nts_len, List.length_append]
          have h1 := lawP_le js i
          have h2 := List.length_filter_le (fun k => (jobAt js k).p == 1 + i) (List.range m)
          rw [List.length_range] at h2
          omega
        by_cases hp : (jobAt js m).p = 1 + i
        · refine iteTq (decide_eq_true (by rw [hp])) ⟨.ref R, rfl, .inl ⟨rfl, _, sqL eR2⟩, _, rfl, R, _, _, rfl, rfl, eR2, by rw [sizeLine_eq]; omega, ⟨_, rfl⟩, fun b o e => ?_, ?_⟩
          · rw [upd_ne (ne_of_none e nR)]
            exact s2 _ _ e
          · have e1 : [m].filter (fun k => (jobAt js k).p == 1 + i) = [m] := by simp [hp]
            rw [upd_same, List.range_succ, List.filter_append, e1, ← List.append_assoc, nts_app (_ ++ _)]
            rfl
        · refine iteFq (decide_eq_false fun z => hp (by have := V.int.inj z; omega)) ⟨⟨_, rfl⟩, s2, ?_⟩
          have e1 : [m].filter (fun k => (jobAt js k).p == 1 + i) = [] := by simp [hp]
          rw [eR2, List.range_succ, List.filter_append, e1, List.append_nil]
      · rintro σ H2 ⟨⟨c3, rfl⟩, s2, eR2⟩
        exact ⟨⟨_, _, rfl⟩, s2, by rw [eR2, lawP_succ]⟩
    · rintro σ H1 ⟨⟨c2, c3, rfl⟩, s1, eR⟩
      refine ⟨.ref R, rfl, R, _, rfl, .inl ⟨sqL eR, fun l nl => q l _ (s1.trans (same_upd nl)) ?_⟩⟩
      rw [upd_same, lawP_byP hok]
theorem ok_refused {k : Nat} (D : Pr P K mg) : FnOk P w K mg base CX0 (k + 5) D._law_refused.f D._law_refused.fd ["word", "jobs"] spRefused := by
  have G_load : FnOk P w K mg base (CX P w) (k + 4) D.load.f D.load.fd ["jobs"] (spLoad D.BadNumber.C D.TooMany.C) := ok_load D
  have G_by_periods : FnOk P w K mg base (CX P w) (k + 4) D.by_periods.f D.by_periods.fd ["jobs"] (spByP D.BadNumber.C D.TooMany.C) := ok_byP D
  have G_never_misses : FnOk P w K mg base (CX P w) (k + 4) D.never_misses.f D.never_misses.fd ["jobs"] (spNever D.BadNumber.C D.TooMany.C) := ok_never D
  refine D._law_refused.F.ok sc__law_refused (fun vs H Q E h => ?_) (fun cdv A outer s H vs Q E hr h => ?_)
  · obtain ⟨n, x, j, rfl, _⟩ := h
    rfl
  · obtain ⟨n, x, j, rfl, hj, q⟩ := h
    refine ⟨_, (pss_cons (ps_set (i := 2) sc__law_refused.nd rfl (.inl rfl) pe_str)
      (pss_cons (ps_try_manyA rfl rfl sc__law_refused.nd takes0 (fun W pn xe tk _ => (pss_one (ps_if (pt_cmpR op_eq (pv 0) pe_int (nomark _)) (pss_one (ps_expr (pe_callS G_load hr (by rfl) D.load.g D.load.F.kp D.load.b (fun σ => passAt tk σ) (pa_cons (pv 1) pa_nil)))) (pss_one (ps_if (pt_cmpR op_eq (pv 0) pe_int (nomark _)) (pss_one (ps_expr (pe_callS G_by_periods hr (by rfl) D.by_periods.g D.by_periods.F.kp D.by_periods.b (fun σ => passAt tk σ) (pa_cons (pv 1) pa_nil)))) (pss_one (ps_expr (pe_callS G_never_misses hr (by rfl) D.never_misses.g D.never_misses.F.kp D.never_misses.b (fun σ => passAt tk σ) (pa_cons (pv 1) pa_nil)))))))))
        (HdsA.named (i := 3) (c := .ref D.BadNumber.C) ⟨by rfl, by decide, .inl D.BadNumber.g⟩ rfl rfl (fun a oe cls d pn hz hv => (pss_one (ps_set (i := 2) sc__law_refused.nd rfl (.inl rfl) (pe_xf D.BadNumber.X (D.BadNumber.nf _ (by simp)) hz hv (pv 3)))))
        (HdsA.named (i := 3) (c := .ref D.TooMany.C) ⟨by rfl, by decide, .inl D.TooMany.g⟩ rfl rfl (fun a oe cls d pn hz hv => (pss_one (ps_set (i := 2) sc__law_refused.nd rfl (.inl rfl) (pe_callTy call_str_int (by rfl) D.B.str (by decide +kernel) (pa_cons (pe_xf D.TooMany.X (D.TooMany.nf _ (by simp)) hz hv (pv 3)) pa_nil)))))
        HdsA.nil)))
      (pss_one (ps_ret (pv 2))))), ?_⟩
    refine ⟨.int n, rfl, rfl, _, rfl, ?_⟩
    by_cases h0 : n = 0
    · refine iteTq (decide_eq_true (by rw [h0]; rfl)) ⟨x, rfl, x, j, rfl, hj, ?_⟩
      cases hc : chk j with
      | num => rw [hc] at q; exact fun d H' s' e => ⟨true, D.x_BadNumber_BadNumber, fun _ a na => ⟨.ref a, rfl, rfl, rfl, d, _, .str "jobs", rfl, e, rfl, .str "jobs", rfl, q H' s'⟩, fun z => Bool.noConfusion z⟩
      | many => rw [hc] at q; exact fun d H' s' e => ⟨false, D.x_TooMany_BadNumber, fun z => Bool.noConfusion z, fun _ => ⟨true, D.x_TooMany_TooMany, fun _ a na => ⟨.ref a, rfl, rfl, rfl, d, _, .int 5, rfl, e, rfl, 5, rfl, by decide, .str "5", rfl, q H' s'⟩, fun z => Bool.noConfusion z⟩⟩
      | ok js => rw [hc] at q; exact fun a H' s' e => ⟨.str "", rfl, q H' s'⟩
    refine iteFq (decide_eq_false fun z => h0 (by have := V.int.inj z; omega)) ⟨.int n, rfl, rfl, _, rfl, ?_⟩
    by_cases h1 : n = 1
    · refine iteTq (decide_eq_true (by rw [h1]; rfl)) ⟨x, rfl, x, j, rfl, hj, ?_⟩
      cases hc : chk j with
      | num => rw [hc] at q; exact fun d H' s' e => ⟨true, D.x_BadNumber_BadNumber, fun _ a na => ⟨.ref a, rfl, rfl, rfl, d, _, .str "jobs", rfl, e, rfl, .str "jobs", rfl, q H' s'⟩, fun z => Bool.noConfusion z⟩
      | many => rw [hc] at q; exact fun d H' s' e => ⟨false, D.x_TooMany_BadNumber, fun z => Bool.noConfusion z, fun _ => ⟨true, D.x_TooMany_TooMany, fun _ a na => ⟨.ref a, rfl, rfl, rfl, d, _, .int 5, rfl, e, rfl, 5, rfl, by decide, .str "5", rfl, q H' s'⟩, fun z => Bool.noConfusion z⟩⟩
      | ok js => rw [hc] at q; exact fun a H' s' e => ⟨.str "", rfl, q H' s'⟩
    refine iteFq (decide_eq_false fun z => h1 (by have := V.int.inj z; omega)) ⟨x, rfl, x, j, rfl, hj, ?_⟩
    cases hc : chk j with
    | num => rw [hc] at q; exact fun d H' s' e => ⟨true, D.x_BadNumber_BadNumber, fun _ a na => ⟨.ref a, rfl, rfl, rfl, d, _, .str "jobs", rfl, e, rfl, .str "jobs", rfl, q H' s'⟩, fun z => Bool.noConfusion z⟩
    | many => rw [hc] at q; exact fun d H' s' e => ⟨false, D.x_TooMany_BadNumber, fun z => Bool.noConfusion z, fun _ => ⟨true, D.x_TooMany_TooMany, fun _ a na => ⟨.ref a, rfl, rfl, rfl, d, _, .int 5, rfl, e, rfl, 5, rfl, by decide, .str "5", rfl, q H' s'⟩, fun z => Bool.noConfusion z⟩⟩
    | ok js => rw [hc] at q; exact fun H' b s' e => ⟨.str "", rfl, q H' s'⟩
end
end K7

set_option Elab.async false
set_option linter.all false
set_option maxRecDepth 100000
set_option maxHeartbeats 4000000
namespace K7
/-! ### the order by periods is the best one; dividing periods: the mathematics -/
theorem perm_sum {l m : List Nat} (h : l.Perm m) : l.sum = m.sum := by
  induction h with
  | nil => rfl
  | cons x _ ih => rw [List.sum_cons, List.sum_cons, ih]
  | swap x y l => simp only [List.sum_cons]; omega
  | trans _ _ h1 h2 => rw [h1, h2]
theorem sum_sub (f : Nat → Nat) : ∀ {l o : List Nat}, l.Nodup → (∀ x ∈ l, x ∈ o) → (l.map f).sum ≤ (o.map f).sum
  | [], o, _, _ => Nat.zero_le _
  | x :: l, o, nd, h => by
    obtain ⟨hx, nd⟩ := List.nodup_cons.mp nd
    have hp := List.perm_cons_erase (h x List.mem_cons_self)
    have e := perm_sum (hp.map f)
    rw [e, List.map_cons, List.map_cons, List.sum_cons, List.sum_cons]
    refine Nat.add_le_add_left (sum_sub f nd fun y hy => ?_) _
    exact (List.mem_erase_of_ne (fun z => hx (by rw [← z]; exact hy))).mpr (h y (List.mem_cons_of_mem _ hy))
theorem last_such (P : Nat → Prop) : ∀ n, (∃ l, l < n ∧ P l) → ∃ l, l < n ∧ P l ∧ ∀ l', l < l' → l' < n → ¬ P l'
  | 0, ⟨l, h, _⟩ => absurd h (by omega)
  | n + 1, ⟨l, h, hp⟩ => by
    rcases Classical.em (P n) with hn | hn
    · exact ⟨n, Nat.lt_succ_self n, hn, fun l' h1 h2 => by omega⟩
    · have hl : l < n := by
        rcases Nat.lt_or_ge l n with z | z
        · exact z
        · have : l = n := by omega
          subst this
          exact absurd hp hn
      obtain ⟨l0, h0, p0, h1⟩ := last_such P n ⟨l, hl, hp⟩
      refine ⟨l0, by omega, p0, fun l' h2 h3 => ?_⟩
      by_cases e : l' = n
      · rw [e]; exact hn
      · exact h1 l' h2 (by omega)
def rankd (js : List Job) (o : List Nat) : List Job := o.map (jobAt js)
theorem rankd_at {js : List Job} {o : List Nat} {i x : Nat} (h : o[i]? = some x) : jobAt (rankd js o) i = jobAt js x := jobAt_get (by unfold rankd; rw [List.getElem?_map, h]; rfl)
theorem load_rankd (js : List Job) (o : List Nat) (i t : Nat) : load ((rankd js o).take i) t = ((o.take i).map fun x => (jobAt js x).r * up t (jobAt js x).p).sum := by
  unfold load rankd
  rw [← List.map_take, List.map_map]
  rfl
theorem ok_at {js : List Job} (hok : ∀ j ∈ js, JOk j) {i : Nat} (h : i < js.length) : JOk (jobAt js i) := by
  have hk : js[i]? = some (jobAt js i) := by
    unfold jobAt
    rw [List.getD_eq_getElem?_getD, List.getElem?_eq_getElem h]
    rfl
  exact hok _ (List.mem_of_getElem? hk)
theorem rm_best {js : List Job} (hok : ∀ j ∈ js, JOk j) {o : List Nat} (ho : o.Perm (List.range js.length)) (h : AllF (rankd js o)) : AllF (rankd js (byP js)) := by
  intro i hi
  have hb := byP_perm js
  have lb : (byP js).length = js.length := by rw [hb.length_eq, List.length_range]
  have lo : o.length = js.length := by rw [ho.length_eq, List.length_range]
  have hi : i < js.length := by
    have : (rankd js (byP js)).length = js.length := by unfold rankd; rw [List.length_map, lb]
    omega
  have nb : (byP js).Nodup := hb.nodup_iff.mpr List.nodup_range
  have gi : (byP js)[i]? = some (byP js)[i] := List.getElem?_eq_getElem (by omega)
  generalize hxi : (byP js)[i] = xi at gi
  have hS : (byP js).take (i + 1) = (byP js).take i ++ [xi] := take_get gi
  have nS : ((byP js).take (i + 1)).Nodup := List.Sublist.nodup (List.take_sublist _ _) nb
  have memS : ∀ x, x ∈ (byP js).take (i + 1) → x < js.length := fun x hx => List.mem_range.mp (hb.mem_iff.mp (List.mem_of_mem_take hx))
  obtain ⟨l, hl, ⟨m, hm, hmS⟩, hmax⟩ := last_such (fun l => ∃ x, o[l]? = some x ∧ x ∈ (byP js).take (i + 1)) o.length (by
    have hx : xi ∈ o := ho.mem_iff.mpr (List.mem_range.mpr (memS xi (by rw [hS]; simp)))
    obtain ⟨l, hl, e⟩ := List.getElem_of_mem hx
    exact ⟨l, hl, xi, by rw [List.getElem?_eq_getElem hl, e], by rw [hS]; simp⟩)
  obtain ⟨t, t1, t2, t3⟩ := h l (by unfold rankd; rw [List.length_map]; exact hl)
  rw [rankd_at hm] at t2
  have okm := ok_at hok (memS m hmS)
  have okx := ok_at hok (memS xi (by rw [hS]; simp))
  -- the period of m is at most that of xi
  have hpm : (jobAt js m).p ≤ (jobAt js xi).p := by
    have srt : ((byP js).take (i + 1)).Pairwise fun a b => (jobAt js a).p ≤ (jobAt js b).p := List.Pairwise.sublist (List.take_sublist _ _) (byP_sorted js)
    rw [hS] at srt hmS
    rcases List.mem_append.mp hmS with z | z
    · exact (List.pairwise_append.mp srt).2.2 m z xi (by simp)
    · rw [List.mem_singleton.mp z]
      exact Nat.le_refl _
  refine ⟨t, t1, by rw [rankd_at gi]; omega, ?_⟩
  unfold wk at t3 ⊢
  rw [rankd_at gi, load_rankd]
  rw [rankd_at hm, load_rankd] at t3
  have f1 : up t (jobAt js m).p = 1 := up_one t1 t2
  have f2 : 1 ≤ up t (jobAt js xi).p := up_pos t1 okx.p1
  have hp := List.perm_cons_erase hmS
  have e1 := perm_sum (hp.map fun x => (jobAt js x).r * up t (jobAt js x).p)
  rw [List.map_cons, List.sum_cons, f1, Nat.mul_one, hS, List.map_append, List.sum_append, List.map_singleton, List.sum_singleton] at e1
  have e2 : ((((byP js).take i ++ [xi]).erase m).map fun x => (jobAt js x).r * up t (jobAt js x).p).sum ≤ ((o.take l).map fun x => (jobAt js x).r * up t (jobAt js x).p).sum := by
    rw [← hS]
    refine sum_sub _ (nS.erase m) fun x hx => ?_
    have hxS := List.mem_of_mem_erase hx
    have hxm : x ≠ m := fun z => by rw [z] at hx; exact (List.Nodup.mem_erase_iff nS).mp hx |>.1 rfl
    have hxo : x ∈ o := ho.mem_iff.mpr (List.mem_range.mpr (memS x hxS))
    obtain ⟨l', hl', ex⟩ := List.getElem_of_mem hxo
    have gx : o[l']? = some x := by rw [List.getElem?_eq_getElem hl', ex]
    rcases Nat.lt_or_ge l' l with z | z
    · exact List.mem_of_getElem? (show (o.take l)[l']? = some x by rw [List.getElem?_take, if_pos z]; exact gx)
    · rcases Nat.lt_or_eq_of_le z with z | z
      · exact absurd ⟨x, gx, hxS⟩ (hmax l' z hl')
      · rw [← z, hm] at gx
        exact absurd (Option.some.inj gx).symm hxm
  have e3 : (jobAt js xi).r ≤ (jobAt js xi).r * up t (jobAt js xi).p := Nat.le_mul_of_pos_right _ f2
  omega
/-! dividing periods -/
def ssum (l : List Job) (P : Nat) : Nat := (l.map fun j => j.r * (P / j.p)).sum
theorem ssum_snoc (l : List Job) (j : Job) (P : Nat) : ssum (l ++ [j]) P = ssum l P + j.r * (P / j.p) := by
  unfold ssum
  rw [List.map_append, List.sum_append, List.map_singleton, List.sum_singleton]
theorem frac_ssum {js : List Job} {P : Nat} (h : ∀ j ∈ js, j.p ∣ P) : ∀ i, (frac (js.take i)).1 * P = (frac (js.take i)).2 * ssum (js.take i) P
  | 0 => by
    rw [List.take_zero]
    show 0 * P = 1 * 0
    omega
  | i + 1 => by
    rcases Nat.lt_or_ge i js.length with hi | hi
    · have hg : js[i]? = some js[i] := List.getElem?_eq_getElem hi
      have ih := frac_ssum h i
      rw [take_get hg, frac_snoc, ssum_snoc]
      obtain ⟨c, hc⟩ := h _ (List.mem_of_getElem? hg)
      generalize js[i] = j at hc ⊢
      generalize frac (js.take i) = z at ih ⊢
      obtain ⟨n, d⟩ := z
      have ih : n * P = d * ssum (js.take i) P := ih
      show (n * j.p + j.r * d) * P = d * j.p * (ssum (js.take i) P + j.r * (P / j.p))
      rcases Nat.eq_zero_or_pos j.p with hp | hp
      · rw [hp, Nat.zero_mul] at hc
        rw [hp, hc]
        simp
      · have e : P / j.p = c := by rw [hc]; exact Nat.mul_div_cancel_left _ hp
        rw [e, Nat.add_mul, Nat.mul_add]
        have a1 : n * j.p * P = d * j.p * ssum (js.take i) P := by
          rw [Nat.mul_right_comm, ih, Nat.mul_right_comm]
        have a2 : j.r * d * P = d * j.p * (j.r * c) := by
          rw [hc, Nat.mul_comm j.r d, Nat.mul_assoc, Nat.mul_assoc, Nat.mul_left_comm j.r j.p c]
        rw [a1, a2]
    · rw [List.take_of_length_le (by omega), ← List.take_of_length_le (i := i) hi]
      exact frac_ssum h i
theorem up_dvd {q p : Nat} (hp : 1 ≤ p) (h : p ∣ q) : up q p = q / p := by
  obtain ⟨c, rfl⟩ := h
  rw [Nat.mul_comm, up_mul hp, Nat.mul_div_cancel _ (by omega)]
theorem load_ssum {l : List Job} {q : Nat} (h : ∀ j ∈ l, 1 ≤ j.p ∧ j.p ∣ q) : load l q = ssum l q := by
  unfold load ssum
  congr 1
  exact List.map_congr_left fun j hj => by rw [up_dvd (h j hj).1 (h j hj).2]
theorem ssum_scale {l : List Job} {q c : Nat} (h : ∀ j ∈ l, j.p ∣ q) : ssum l (q * c) = c * ssum l q := by
  unfold ssum
  induction l with
  | nil => simp
  | cons j l ih =>
    have e : q * c / j.p = c * (q / j.p) := by rw [Nat.mul_comm q c, Nat.mul_div_assoc _ (h j List.mem_cons_self)]
    rw [List.map_cons, List.sum_cons, List.map_cons, List.sum_cons, ih fun j hj => h j (List.mem_cons_of_mem _ hj), e, Nat.mul_add, Nat.mul_left_comm]
theorem ssum_load {l : List Job} {P t : Nat} (h : ∀ j ∈ l, 1 ≤ j.p ∧ j.p ∣ P) : ssum l P * t ≤ P * load l t := by
  unfold ssum load
  induction l with
  | nil => simp
  | cons j l ih =>
    rw [List.map_cons, List.sum_cons, List.map_cons, List.sum_cons, Nat.add_mul, Nat.mul_add]
    refine Nat.add_le_add ?_ (ih fun j hj => h j (List.mem_cons_of_mem _ hj))
    obtain ⟨h1, c, hc⟩ := h j List.mem_cons_self
    have e : P / j.p = c := by rw [hc]; exact Nat.mul_div_cancel_left _ h1
    rw [e, hc]
    have h2 := le_up (n := t) h1
    calc j.r * c * t ≤ j.r * c * (j.p * up t j.p) := Nat.mul_le_mul_left _ h2
      _ = j.p * c * (j.r * up t j.p) := by
        rw [Nat.mul_comm j.r c, Nat.mul_assoc, Nat.mul_comm j.p c, Nat.mul_assoc, Nat.mul_left_comm j.r]
theorem low_le_iff {x : Nat × Nat} (h : 1 ≤ x.2) : (low x).1 ≤ (low x).2 ↔ x.1 ≤ x.2 := by
  obtain ⟨n, d⟩ := x
  have hg : 0 < Nat.gcd n d := Nat.gcd_pos_of_pos_right _ h
  obtain ⟨a, ha⟩ := Nat.gcd_dvd_left n d
  obtain ⟨b, hb⟩ := Nat.gcd_dvd_right n d
  generalize hG : Nat.gcd n d = g at hg ha hb
  have e1 : low (n, d) = (a, b) := by
    show (n / Nat.gcd n d, d / Nat.gcd n d) = (a, b)
    rw [hG, ha, hb, Nat.mul_div_cancel_left _ hg, Nat.mul_div_cancel_left _ hg]
  rw [e1]
  show a ≤ b ↔ n ≤ d
  rw [ha, hb]
  exact (Nat.mul_le_mul_left_iff hg).symm
theorem divs {js : List Job} (h : (js.map (·.p)).Pairwise (· ∣ ·)) {i k : Nat} (hik : i ≤ k) (hk : k < js.length) : (jobAt js i).p ∣ (jobAt js k).p := by
  have ei : ∀ i, i < js.length → js[i]? = some (jobAt js i) := fun i hi => by
    unfold jobAt
    rw [List.getD_eq_getElem?_getD, List.getElem?_eq_getElem hi]
    rfl
  rcases Nat.lt_or_eq_of_le hik with z | z
  · have := List.pairwise_iff_getElem.mp h i k (by rw [List.length_map]; omega) (by rw [List.length_map]; omega) z
    rw [List.getElem_map, List.getElem_map] at this
    have e1 := ei i (by omega)
    have e2 := ei k hk
    rw [List.getElem?_eq_getElem (by omega)] at e1 e2
    rw [Option.some.inj e1, Option.some.inj e2] at this
    exact this
  · rw [z]; exact Nat.dvd_refl _
theorem mem_take_at {js : List Job} {i : Nat} {j : Job} (h : j ∈ js.take i) : ∃ k, k < i ∧ k < js.length ∧ jobAt js k = j := by
  obtain ⟨k, hk, e⟩ := List.getElem_of_mem h
  rw [List.length_take] at hk
  refine ⟨k, by omega, by omega, jobAt_get ?_⟩
  rw [List.getElem_take] at e
  rw [List.getElem?_eq_getElem (by omega), e]
theorem dividing_iff {js : List Job} (hok : ∀ j ∈ js, JOk j) (h1 : 1 ≤ js.length) (hd : (js.map (·.p)).Pairwise (· ∣ ·)) : AllF js ↔ (frac js).1 ≤ (frac js).2 := by
  have hlast : js.length - 1 < js.length := by omega
  have okl := ok_at hok hlast
  generalize hP : (jobAt js (js.length - 1)).p = P at okl
  have dvP : ∀ j ∈ js, j.p ∣ P := fun j hj => by
    rw [← List.take_length (l := js)] at hj
    obtain ⟨k, h2, h3, rfl⟩ := mem_take_at hj
    rw [← hP]
    exact divs hd (by omega) hlast
  have hP1 : 1 ≤ P := by have := okl.p1; omega
  have fs := frac_ssum dvP js.length
  rw [List.take_length] at fs
  have hD : 1 ≤ (frac js).2 := frac_pos hok (by decide)
  have key : (frac js).1 ≤ (frac js).2 ↔ ssum js P ≤ P := by
    rw [← Nat.mul_le_mul_right_iff (show 0 < P from hP1), fs]
    exact Nat.mul_le_mul_left_iff hD
  have hsp : js = js.take (js.length - 1) ++ [jobAt js (js.length - 1)] := by
    have hg : js[js.length - 1]? = some (jobAt js (js.length - 1)) := by
      unfold jobAt
      rw [List.getD_eq_getElem?_getD, List.getElem?_eq_getElem hlast]
      rfl
    rw [← take_get hg, show js.length - 1 + 1 = js.length by omega, List.take_length]
  rw [key]
  constructor
  · intro h
    obtain ⟨t, t1, t2, t3⟩ := h _ hlast
    rw [hP] at t2
    have e1 : load js t ≤ t := by
      rw [hsp, load_snoc, hP, up_one t1 t2, Nat.mul_one]
      unfold wk at t3
      omega
    have e2 := ssum_load (t := t) fun j hj => ⟨(hok j hj).p1, dvP j hj⟩
    have e3 : P * load js t ≤ P * t := Nat.mul_le_mul_left _ e1
    exact Nat.le_of_mul_le_mul_right (Nat.le_trans e2 e3) t1
  · intro h i hi
    have oki := ok_at hok hi
    obtain ⟨c, hc⟩ := divs hd (show i ≤ js.length - 1 by omega) hlast
    rw [hP] at hc
    have hc1 : 0 < c := by
      rcases Nat.eq_zero_or_pos c with z | z
      · rw [z, Nat.mul_zero] at hc; omega
      · exact z
    have dq : ∀ j ∈ js.take (i + 1), 1 ≤ j.p ∧ j.p ∣ (jobAt js i).p := fun j hj => by
      obtain ⟨k, h2, h3, rfl⟩ := mem_take_at hj
      exact ⟨(ok_at hok h3).p1, divs hd (by omega) hi⟩
    have hg : js[i]? = some (jobAt js i) := by
      unfold jobAt
      rw [List.getD_eq_getElem?_getD, List.getElem?_eq_getElem hi]
      rfl
    have mono : ssum (js.take (i + 1)) P ≤ ssum js P := by
      have e : js = js.take (i + 1) ++ js.drop (i + 1) := (List.take_append_drop _ _).symm
      conv => rhs; rw [e]
      unfold ssum
      rw [List.map_append, List.sum_append]
      exact Nat.le_add_right _ _
    have e1 : c * ssum (js.take (i + 1)) (jobAt js i).p ≤ c * (jobAt js i).p := by
      rw [← ssum_scale fun j hj => (dq j hj).2, ← hc, Nat.mul_comm c, ← hc]
      omega
    have e2 := Nat.le_of_mul_le_mul_left e1 hc1
    refine ⟨(jobAt js i).p, oki.p1, Nat.le_refl _, ?_⟩
    rw [take_get hg, ssum_snoc, Nat.div_self oki.p1, Nat.mul_one] at e2
    unfold wk
    rw [load_ssum fun j hj => dq j (by rw [take_get hg]; exact List.mem_append_left _ hj)]
    omega
end K7

set_option Elab.async false
set_option linter.all false
set_option maxRecDepth 100000
set_option maxHeartbeats 4000000
namespace K7
open PySem PySem.Spec PyProof.Rows L2 GX NdefX
/-! ### _law_refusals_fit -/
def itsOf (js : List Job) : List (Option (List Int)) := js.map fun j => some (ji j)
theorem its_at {H : Hp} {ts : List V} {js : List Job} (p : TupsT H ts (js.map jv)) : Paired (ItAt H) ts (itsOf js) := by
  unfold itsOf
  refine paired_map (g := fun j => some (ji j)) ?_
  have key : ∀ {ts : List V} (js : List Job), TupsT H ts (js.map jv) → Paired (fun x j => ItAt H x (some (ji j))) ts js := by
    intro ts js
    induction js generalizing ts with
    | nil => intro p; cases p; exact .nil
    | cons j js ih =>
      intro p
      cases p with
      | cons f r =>
        obtain ⟨b, e, h⟩ := f
        exact .cons ⟨b, e, .inr h, by show 3 ≤ 1000; decide⟩ (ih r)
  exact key js p
theorem jb_of {H : Hp} {a : Addr} {js : List Job} (h : JobsT H a js) (hl : js.length ≤ 1000) : JbAt H (.ref a) (some (itsOf js)) := by
  obtain ⟨ts, e, p⟩ := h
  exact ⟨a, ts, rfl, .inr e, its_at p, by unfold itsOf; rw [List.length_map]; exact hl⟩
theorem chk_good {js : List Job} (hok : ∀ j ∈ js, JOk j) (hl : js.length ≤ 5) : chk (some (itsOf js)) = .ok js := by
  show (if 5 < (itsOf js).length then Chk.many else if (itsOf js).all goodI = true then .ok ((itsOf js).map toJ) else .num) = .ok js
  have e1 : (itsOf js).length = js.length := by unfold itsOf; rw [List.length_map]
  have e2 : (itsOf js).all goodI = true := by
    unfold itsOf
    rw [List.all_map, List.all_eq_true]
    exact fun j hj => good_ji (hok j hj)
  have e3 : (itsOf js).map toJ = js := by
    unfold itsOf
    rw [List.map_map]
    have : (toJ ∘ fun j => some (ji j)) = id := by funext j; exact toJ_ji j
    rw [this, List.map_id]
  rw [if_neg (by omega), if_pos e2, e3]
theorem chk_bad {its : List (Option (List Int))} {it : Option (List Int)} (h : it ∈ its) (hb : goodI it = false) (hl : its.length ≤ 5) : chk (some its) = .num := by
  show (if 5 < its.length then Chk.many else if its.all goodI = true then .ok (its.map toJ) else .num) = .num
  rw [if_neg (by omega), if_neg fun z => by rw [List.all_eq_true.mp z it h] at hb; cases hb]
theorem JobsT.b {N a : Addr} {H H' : Hp} {js : List Job} (n : NumsAt H N) (s : SameB N H H') (h : JobsT H a js) : JobsT H' a js := by
  obtain ⟨ts, e, p⟩ := h
  obtain ⟨l, en, _⟩ := id n
  exact ⟨ts, s _ _ (fun z => by rw [z, en] at e; cases e) e, tupsB n s p⟩
def bads : List (Option (List Int)) := [some [0, 4, 0], some [13, 24, 0], some [1, 25, 0], some [1, 0, 0], some [1, 4, 4], some [1, 4, -1], some [1, 4], none]
theorem bads_bad : ∀ it ∈ bads, goodI it = false := by decide
def spRfit : Sp := fun vs H Q _ => ∃ (N a : Addr) (js : List Job), vs = [.ref N, .ref a] ∧ NumsAt H N ∧ JobsT H a js ∧ js.length ≤ 4 ∧ (∀ j ∈ js, JOk j) ∧ ∀ H', Q (.bl true) H'
theorem neS {z y : Str} (h : z = y) : (!decide (V.str z = V.str y)) = false := by
  rw [h, decide_eq_true rfl]
  rfl
section
variable {P : Program} {w : World} {K : PySem.W.Frag} {mg : Str → Option Value} {base : Heap}
theorem ok_rfit {k : Nat} (D : Pr P K mg) : FnOk P w K mg base CX0 (k + 6) D._law_refusals_fit.f D._law_refusals_fit.fd ["numbers", "jobs"] spRfit := by
  have G__law_draw : FnOk P w K mg base CX0 (k + 1) D._law_draw.f D._law_draw.fd ["numbers", "many"] spDraw := ok_drawD D
  have G__law_refused : FnOk P w K mg base CX0 (k + 5) D._law_refused.f D._law_refused.fd ["word", "jobs"] spRefused := ok_refused D
  refine D._law_refusals_fit.F.ok sc__law_refusals_fit (fun vs H Q E h => ?_) (fun cdv A outer s H vs Q E hr h => ?_)
  · obtain ⟨N, a, js, rfl, _⟩ := h
    rfl
  · obtain ⟨N, a, js, rfl, hn, jt, hl, hok, q⟩ := h
    refine ⟨_, (pss_cons (ps_set (i := 2) sc__law_refusals_fit.nd rfl (.inl rfl) (pe_call G__law_draw (hr.mono (by omega)) (by rfl) D._law_draw.g D._law_draw.F.kp D._law_draw.b .nil pass0 (pa_cons (pv 0) (pa_cons (pe_op (r := rAddN) op_AddN (pe_callB call_len (by rfl) D.B.len PySem.boot_len (pa_cons (pv 1) pa_nil)) pe_int) pa_nil))))
      (pss_cons (ps_for PassesOwn.never rfl (pi_range1 (by rfl) D.B.range (pa_cons pe_int pa_nil)) (pg_name (i := 3) sc__law_refusals_fit.nd rfl (.inl rfl)) (pss_cons (ps_for PassesOwn.never rfl (pi_list (pe_lst (pa_cons (pe_tup (pa_cons pe_int (pa_cons pe_int (pa_cons pe_int pa_nil)))) (pa_cons (pe_tup (pa_cons pe_int (pa_cons pe_int (pa_cons pe_int pa_nil)))) (pa_cons (pe_tup (pa_cons pe_int (pa_cons pe_int (pa_cons pe_int pa_nil)))) (pa_cons (pe_tup (pa_cons pe_int (pa_cons pe_int (pa_cons pe_int pa_nil)))) (pa_cons (pe_tup (pa_cons pe_int (pa_cons pe_int (pa_cons pe_int pa_nil)))) (pa_cons (pe_tup (pa_cons pe_int (pa_cons pe_int (pa_cons (pe_un un_neg pe_int) pa_nil)))) (pa_cons (pe_tup (pa_cons pe_int (pa_cons pe_int pa_nil))) (pa_cons pe_int pa_nil)))))))))) (pg_name (i := 4) sc__law_refusals_fit.nd rfl (.inl rfl)) (pss_one (ps_if (pt_cmpR op_ne (pe_call G__law_refused hr (by rfl) D._law_refused.g D._law_refused.F.kp D._law_refused.b .nil pass0 (pa_cons (pv 3) (pa_cons (pe_op (r := rCatA K) op_catA (pe_op (r := rCatA K) op_catA (pe_slice sl_tupA (pv 1) po_none (po_some (pv 2))) (pe_tup (pa_cons (pv 4) pa_nil))) (pe_slice sl_tupA (pv 1) (po_some (pv 2)) po_none)) pa_nil))) pe_str (nomark _)) (pss_one (ps_ret pe_bl)) pss_nil))) (pss_cons (ps_if (PW.pt (pw_or (pt_cmpR op_ne (pe_call G__law_refused hr (by rfl) D._law_refused.g D._law_refused.F.kp D._law_refused.b .nil pass0 (pa_cons (pv 3) (pa_cons (pe_op (r := rRepA K) op_repA (pe_tup (pa_cons (pe_tup (pa_cons pe_int (pa_cons pe_int (pa_cons pe_int pa_nil)))) pa_nil)) pe_int) pa_nil))) pe_str (nomark _)) (pw_or1 (pt_cmpR op_ne (pe_call G__law_refused hr (by rfl) D._law_refused.g D._law_refused.F.kp D._law_refused.b .nil pass0 (pa_cons (pv 3) (pa_cons pe_int pa_nil))) pe_str (nomark _))))) (pss_one (ps_ret pe_bl)) pss_nil) (pss_one (ps_if (PW.pt (pw_or (pt_cmpR op_ne (pe_call G__law_refused hr (by rfl) D._law_refused.g D._law_refused.F.kp D._law_refused.b .nil pass0 (pa_cons (pv 3) (pa_cons (pe_op (r := rRepA K) op_repA (pe_tup (pa_cons (pe_tup (pa_cons pe_int (pa_cons pe_int (pa_cons pe_int pa_nil)))) pa_nil)) pe_int) pa_nil))) pe_str (nomark _)) (pw_or1 (pt_cmpR op_ne (pe_call G__law_refused hr (by rfl) D._law_refused.g D._law_refused.F.kp D._law_refused.b .nil pass0 (pa_cons (pv 3) (pa_cons (pv 1) pa_nil))) pe_str (nomark _))))) (pss_one (ps_ret pe_bl)) pss_nil)))))
      (pss_one (ps_ret pe_bl)))), ?_⟩
    obtain ⟨ts, ha, pt⟩ := id jt
    refine ⟨.ref N, rfl, .ref a, rfl, .ref a, js.length, rfl, .inr ⟨_, sqT ha, (jt_len pt).symm⟩, js.length, 1, rfl, rfl, N, js.length + 1, rfl, by omega, hn, fun H1 r hr1 s1 n1 => ?_⟩
    have jt1 := jt.b hn s1
    clear ha pt ts
    refine ⟨3, rfl, by decide, by decide, ?_⟩
    refine forRg (D := { nx := _, rt := Q }) (n := 3) (fun i σ H' => (∃ c3 c4, σ = [some (.ref N), some (.ref a), some (.int (r : Nat)), c3, c4]) ∧ Same H1 H') ⟨⟨_, _, rfl⟩, Same.refl _⟩ ?_ (fun σ H2 _ => q H2)
    rintro i σ H2 hi ⟨⟨c3, c4, rfl⟩, s2⟩
    have jt2 := jt1.same s2
    refine ⟨by show 3 ≤ sizeLine; decide, fun A0 nA0 => ⟨by show 3 ≤ sizeLine; decide, fun A1 nA1 => ⟨by show 3 ≤ sizeLine; decide, fun A2 nA2 => ⟨by show 3 ≤ sizeLine; decide, fun A3 nA3 => ⟨by show 3 ≤ sizeLine; decide, fun A4 nA4 => ⟨1, rfl, by show 3 ≤ sizeLine; decide, fun A5 nA5 => ⟨by show 2 ≤ sizeLine; decide, fun A6 nA6 => ⟨by show 8 ≤ sizeLine; decide, fun L nL => ⟨L, rfl, ⟨_, sqL upd_same⟩, ?_⟩⟩⟩⟩⟩⟩⟩⟩⟩
    have sL := same_upd nL (o := .lst [.ref A0, .ref A1, .ref A2, .ref A3, .ref A4, .ref A5, .ref A6, .int 3])
    have s6 := (same_upd nA6 (o := .tup [.int 1, .int 4])).trans sL
    have s5 := (same_upd nA5 (o := .tup [.int 1, .int 4, .int (-1)])).trans s6
    have s4 := (same_upd nA4 (o := .tup [.int 1, .int 4, .int 4])).trans s5
    have s3 := (same_upd nA3 (o := .tup [.int 1, .int 0, .int 0])).trans s4
    have s2a := (same_upd nA2 (o := .tup [.int 1, .int 25, .int 0])).trans s3
    have s1a := (same_upd nA1 (o := .tup [.int 13, .int 24, .int 0])).trans s2a
    have s0 := (same_upd nA0 (o := .tup [.int 0, .int 4, .int 0])).trans s1a
    refine forLs (D := { nx := _, rt := Q }) (xs := [.ref A0, .ref A1, .ref A2, .ref A3, .ref A4, .ref A5, .ref A6, .int 3]) (fun m σ H' => (∃ c4, σ = [some (.ref N), some (.ref a), some (.int (r : Nat)), some (.int (i : Nat)), c4]) ∧ Same H2 H' ∧ H' L = some (.lst [.ref A0, .ref A1, .ref A2, .ref A3, .ref A4, .ref A5, .ref A6, .int 3]) ∧ Paired (ItAt H') [.ref A0, .ref A1, .ref A2, .ref A3, .ref A4, .ref A5, .ref A6, .int 3] bads) upd_same
      ⟨⟨_, rfl⟩, s0, upd_same, ?_⟩ (fun m σ H' h => h.2.2.1) ?_ ?_
    · exact .cons ⟨A0, rfl, .inr (s1a _ _ upd_same), by decide⟩ (.cons ⟨A1, rfl, .inr (s2a _ _ upd_same), by decide⟩ (.cons ⟨A2, rfl, .inr (s3 _ _ upd_same), by decide⟩ (.cons ⟨A3, rfl, .inr (s4 _ _ upd_same), by decide⟩ (.cons ⟨A4, rfl, .inr (s5 _ _ upd_same), by decide⟩ (.cons ⟨A5, rfl, .inr (s6 _ _ upd_same), by decide⟩ (.cons ⟨A6, rfl, .inr (sL _ _ upd_same), by decide⟩ (.cons (.inr (.inl ⟨3, rfl⟩)) .nil)))))))
    · rintro m x σ H3 hx ⟨⟨c4, rfl⟩, s3', eL, pb⟩
      obtain ⟨it, hit, hx2⟩ := paired_get pb hx
      have hbad := bads_bad it (List.mem_of_getElem? hit)
      obtain ⟨ts, ha, pt⟩ := jt2.same s3'
      have lts := jt_len pt
      refine ⟨.int i, rfl, .ref a, rfl, .int r, rfl, (r : Nat), rfl, slA ha fun S1 H4 s4' e4 => ?_⟩
      rw [cut_to] at e4
      refine ⟨x, rfl, by show 1 ≤ sizeLine; decide, fun U nU => ?_⟩
      have sU := same_upd nU (o := .tup [x])
      refine catA (sU _ _ e4) upd_same (by rw [List.length_take]; show min r ts.length + 1 ≤ 1000; omega) fun S2 H5 s5' e5 => ?_
      have s35 := s4'.trans (sU.trans s5')
      refine ⟨.ref a, rfl, .int r, rfl, (r : Nat), rfl, ?_⟩
      delta tNoPart
      refine slA (s35 _ _ ha) fun S3 H6 s6' e6 => ?_
      rw [cut_from] at e6
      refine catA (s6' _ _ e5) e6 (by rw [List.length_append, List.length_take, List.length_drop]; show min r ts.length + 1 + _ ≤ 1000; omega) fun S4 H7 s7' e7 => ?_
      have s37 := s35.trans (s6'.trans s7')
      have pi := its_at (pt.same s37)
      have pp : Paired (ItAt H7) ((ts.take r ++ [x]) ++ ts.drop r) (((itsOf js).take r ++ [it]) ++ (itsOf js).drop r) := paired_app (paired_app (paired_take pi r).1 (.cons (hx2.same s37) .nil)) (paired_take pi r).2
      have li : (((itsOf js).take r ++ [it]) ++ (itsOf js).drop r).length ≤ 5 := by
        have := pp.length
        rw [← this, List.length_append, List.length_append, List.length_take, List.length_drop, List.length_singleton]
        omega
      refine ⟨i, .ref S4, some (((itsOf js).take r ++ [it]) ++ (itsOf js).drop r), rfl, ⟨S4, _, rfl, .inr e7, pp, by omega⟩, fun H8 s8 => ⟨rfl, _, rfl, iteFq (neS ?_) ⟨⟨_, rfl⟩, s3'.trans (s37.trans s8), s8 _ _ (s37 _ _ eL), paired_imp (fun _ _ h => h.same (s37.trans s8)) pb⟩⟩⟩
      rw [chk_bad (it := it) (by simp) hbad li]
      rfl
    · rintro σ H3 ⟨⟨c4, rfl⟩, s3', eL, pb⟩
      refine ⟨.int i, rfl, by show 3 ≤ sizeLine; decide, fun B0 nB0 => ⟨by show 1 ≤ sizeLine; decide, fun B1 nB1 => ⟨B1, 6, [.ref B0], rfl, rfl, sqT upd_same, by simp, by decide, by decide, by show 1 ≤ 1000; decide, fun z => absurd z (by decide), fun _ p np => ?_⟩⟩⟩
      have sp := same_upd np (o := .tup [.ref B0, .ref B0, .ref B0, .ref B0, .ref B0, .ref B0])
      have sB1 := (same_upd nB1 (o := .tup [.ref B0])).trans sp
      have sB0 := (same_upd nB0 (o := .tup [.int 1, .int 6, .int 0])).trans sB1
      have hb : ItAt (upd (upd (upd H3 B0 (.tup [.int 1, .int 6, .int 0])) B1 (.tup [.ref B0])) p (.tup [.ref B0, .ref B0, .ref B0, .ref B0, .ref B0, .ref B0])) (.ref B0) (some [1, 6, 0]) := ⟨B0, rfl, .inr (sB1 _ _ upd_same), by decide⟩
      refine ⟨i, .ref p, some [some [1, 6, 0], some [1, 6, 0], some [1, 6, 0], some [1, 6, 0], some [1, 6, 0], some [1, 6, 0]], rfl, ⟨p, _, rfl, .inr upd_same, .cons hb (.cons hb (.cons hb (.cons hb (.cons hb (.cons hb .nil))))), by decide⟩, fun H4 s4' => ⟨rfl, _, rfl, iteFq (neS rfl) ?_⟩⟩
      refine ⟨.int i, rfl, i, .int 7, none, rfl, .inr (.inl ⟨7, rfl⟩), fun H5 s5' => ⟨rfl, _, rfl, iteFq (neS rfl) ?_⟩⟩
      refine ⟨.int i, rfl, by show 3 ≤ sizeLine; decide, fun C0 nC0 => ⟨by show 1 ≤ sizeLine; decide, fun C1 nC1 => ⟨C1, 5, [.ref C0], rfl, rfl, sqT upd_same, by simp, by decide, by decide, by show 1 ≤ 1000; decide, fun z => absurd z (by decide), fun _ p2 np2 => ?_⟩⟩⟩
      have sp2 := same_upd np2 (o := .tup [.ref C0, .ref C0, .ref C0, .ref C0, .ref C0])
      have sC1 := (same_upd nC1 (o := .tup [.ref C0])).trans sp2
      have sC0 := (same_upd nC0 (o := .tup [.int 1, .int 24, .int 23])).trans sC1
      have hc : ItAt (upd (upd (upd H5 C0 (.tup [.int 1, .int 24, .int 23])) C1 (.tup [.ref C0])) p2 (.tup [.ref C0, .ref C0, .ref C0, .ref C0, .ref C0])) (.ref C0) (some [1, 24, 23]) := ⟨C0, rfl, .inr (sC1 _ _ upd_same), by decide⟩
      refine ⟨i, .ref p2, some [some [1, 24, 23], some [1, 24, 23], some [1, 24, 23], some [1, 24, 23], some [1, 24, 23]], rfl, ⟨p2, _, rfl, .inr upd_same, .cons hc (.cons hc (.cons hc (.cons hc (.cons hc .nil)))), by decide⟩, fun H6 s6' => ⟨rfl, _, rfl, iteFq (neS rfl) ?_⟩⟩
      have s26 := s3'.trans (sB0.trans (s4'.trans (s5'.trans (sC0.trans s6'))))
      refine ⟨.int i, rfl, .ref a, rfl, i, .ref a, some (itsOf js), rfl, jb_of (jt2.same s26) (by omega), fun H7 s7' => ⟨rfl, _, rfl, iteFq (neS ?_) ⟨⟨_, _, rfl⟩, s2.trans (s26.trans s7')⟩⟩⟩
      rw [chk_good hok (by omega)]
      rfl
end
end K7

set_option Elab.async false
set_option linter.all false
set_option maxRecDepth 100000
set_option maxHeartbeats 4000000
namespace K7
open PySem PySem.Spec PyProof.Rows L2 GX NdefX
/-! ### law, its tail -/
def JT (H : Hp) (a : Addr) (js : List Job) : Prop := JobsT H a js ∧ js.length ≤ 4 ∧ ∀ j ∈ js, JOk j
theorem chkd_good {CN CM : Addr} {E : XK} {H : Hp} {ok : List Job → Prop} {js : List Job} (hok : ∀ j ∈ js, JOk j) (hl : js.length ≤ 5) (h : ok js) : Chkd CN CM E H ok (chk (some (itsOf js))) := by
  rw [chk_good hok hl]
  exact h
theorem rankd_ok {js : List Job} (hok : ∀ j ∈ js, JOk j) {o : List Nat} (h : ∀ x ∈ o, x < js.length) : ∀ j ∈ rankd js o, JOk j := fun j hj => by
  obtain ⟨x, hx, rfl⟩ := List.mem_map.mp hj
  exact ok_at hok (h x hx)
/-- a row of jobs picked by places, as a list of tuples -/
theorem ranked_row {H : Hp} {js : List Job} {o : List Nat} {us : List V} (p : Paired (fun x i => ∀ k, o[i]? = some k → TupT H x (jv (jobAt js k))) us (List.range (nts o).length)) : TupsT H us ((rankd js o).map jv) := by
  have e : (rankd js o).map jv = o.map fun k => jv (jobAt js k) := by
    unfold rankd
    rw [List.map_map]
    rfl
  rw [e]
  exact paired_map (g := fun k => jv (jobAt js k)) (paired_range p (nts_len o) fun i x k hk h => h k hk)
theorem nts_get {l : List Nat} {i : Nat} {x : V} (h : (nts l)[i]? = some x) : ∃ k, l[i]? = some k ∧ x = .int (k : Nat) := by
  unfold nts at h
  rw [List.getElem?_map] at h
  obtain ⟨k, hk, e⟩ := Option.map_eq_some_iff.mp h
  exact ⟨k, hk, e.symm⟩
theorem neB {x y : Bool} (h : x = y) : (!decide (V.bl x = V.bl y)) = false := by
  rw [h, decide_eq_true rfl]
  rfl
/-- a job as a list -/
def LstT (H : Hp) (D : Addr) (x : V) (vs : List V) : Prop := ∃ b, x = .ref b ∧ b ≠ D ∧ H b = some (.lst vs)
theorem lst_its {H : Hp} {D : Addr} {js : List Job} : ∀ {us : List V}, Paired (fun x j => LstT H D x (jv j)) us js → Paired (ItAt H) us (itsOf js) := fun p => by
  unfold itsOf
  refine paired_map (g := fun j => some (ji j)) (paired_imp (fun x j h => ?_) p)
  obtain ⟨b, e, _, h⟩ := h
  exact ⟨b, e, .inl h, by show 3 ≤ 1000; decide⟩
theorem ne_of_none_r {H : Hp} {D p : Addr} {o : HO} (e : H D = some o) (np : H p = none) : p ≠ D := fun z => by rw [z, e] at np; cases np
section
variable {P : Program} {w : World} {K : PySem.W.Frag} {mg : Str → Option Value} {base : Heap}
theorem law_end {k : Nat} (D : Pr P K mg) (f : Addr) (cdv : Value) (A : Around) (outer : List Env) (s : Shared) (H0 : Hp) (Q : VK) (E : XK) (hr : Room (k + 6) (A.deeper (envOfC "law" (defScope s_law) s.heap.objs.size f cdv))) :
    ∃ t, PSs (cxOf (CX P w) P w K mg base n_law "law" (defScope s_law) f cdv A outer s H0 E) ((defBody s_law).drop 12) t ∧ ∀ (c0 c5 c7 c8 c9 c10 c11 : Option V) (N a U : Addr) (js : List Job) (dv sm : Bool) (H : Hp), NumsAt H N → JT H a js → H U = some (.tup [.int ((low (frac js)).1 : Nat), .int ((low (frac js)).2 : Nat)]) →
      (∀ H', Q (.bl true) H') →
      t { nx := fun _ H' => Q V.non H', rt := Q } [c0, some (.ref N), some (.bl dv), some (.ref a), some (.ref U), c5, some (.bl sm), c7, c8, c9, c10, c11] H := by
  have G_load : FnOk P w K mg base (CX P w) (k + 4) D.load.f D.load.fd ["jobs"] (spLoad D.BadNumber.C D.TooMany.C) := ok_load D
  have G_by_periods : FnOk P w K mg base (CX P w) (k + 4) D.by_periods.f D.by_periods.fd ["jobs"] (spByP D.BadNumber.C D.TooMany.C) := ok_byP D
  have G_never_misses : FnOk P w K mg base (CX P w) (k + 4) D.never_misses.f D.never_misses.fd ["jobs"] (spNever D.BadNumber.C D.TooMany.C) := ok_never D
  have G__law_refusals_fit : FnOk P w K mg base CX0 (k + 6) D._law_refusals_fit.f D._law_refusals_fit.fd ["numbers", "jobs"] spRfit := ok_rfit D
  refine ⟨_, (pss_cons (ps_if (pt_cmpR op_ne (pe_call G_never_misses (hr.mono (by omega)) (by rfl) D.never_misses.g D.never_misses.F.kp D.never_misses.b .nil (passes_call (takes_of rfl rfl rfl rfl) (fun _ _ _ _ h => h)) (pa_cons (pe_lc (own := [("job", 11)]) (g := (gName 11)) (tt := tYes) rfl sc_law.nd (pi_tup (pv 3)) (blkOk_by (own := [("job", 11)]) (N := n_law) (sc := defScope s_law) (by decide +kernel)) (fun _ _ _ _ _ => (pg_name (i := 11) sc_law.nd rfl (.inl rfl))) (fun _ _ _ _ _ => pts_nil) (fun _ _ _ _ _ => (pe_callTy (r := rListOf K) call_list_of (by rfl) D.B.list (by decide +kernel) (pa_cons (pv 11) pa_nil)))) pa_nil)) (pe_call G_never_misses (hr.mono (by omega)) (by rfl) D.never_misses.g D.never_misses.F.kp D.never_misses.b .nil (passes_call (takes_of rfl rfl rfl rfl) (fun _ _ _ _ h => h)) (pa_cons (pv 3) pa_nil)) (nomark _)) (pss_one (ps_ret pe_bl)) pss_nil)
      (pss_one (ps_ret (pe_and (pe_cmpR (op_eqD hr.units) (pe_call G_load (hr.mono (by omega)) (by rfl) D.load.g D.load.F.kp D.load.b .nil (passes_call (takes_of rfl rfl rfl rfl) (fun _ _ _ _ h => h)) (pa_cons (pe_lc (own := [("job", 11)]) (g := (gName 11)) (tt := tYes) rfl sc_law.nd (pi_tup (pv 3)) (blkOk_by (own := [("job", 11)]) (N := n_law) (sc := defScope s_law) (by decide +kernel)) (fun _ _ _ _ _ => (pg_name (i := 11) sc_law.nd rfl (.inl rfl))) (fun _ _ _ _ _ => pts_nil) (fun _ _ _ _ _ => (pe_callTy (r := rListOf K) call_list_of (by rfl) D.B.list (by decide +kernel) (pa_cons (pv 11) pa_nil)))) pa_nil)) (pv 4) (nomark _)) (pe_one (pe_call G__law_refusals_fit hr (by rfl) D._law_refusals_fit.g D._law_refusals_fit.F.kp D._law_refusals_fit.b .nil pass0 (pa_cons (pv 1) (pa_cons (pv 3) pa_nil)))))))), ?_⟩
  intro c0 c5 c7 c8 c9 c10 c11 N a U js dv sm H hn ⟨jt, hl, hok⟩ hU q
  obtain ⟨ts, ha, pt⟩ := id jt
  have lts := jt_len pt
  refine ⟨.ref a, rfl, a, rfl, ⟨_, sqT ha⟩, lcTupD (fun D i H y => ∀ j, js[i]? = some j → LstT H D y (jv j)) (fun D i H H' x s h j hj => (h j hj).imp fun b h => ⟨h.1, h.2.1, s _ _ h.2.2⟩) (fun D i H x us ys e _ h j hj => (h j hj).imp fun b h => ⟨h.1, h.2.1, by rw [upd_ne h.2.1]; exact h.2.2⟩) ha (by omega) (fun Dl i y H2 Qk Qn hy s2 nDl eDl hk => ?_) (fun Dl H2 us nDl s2 eDl pu => ?_)⟩
  · obtain ⟨j, b, hj, rfl, hb⟩ := jobs_got (pt.same s2) hy
    obtain ⟨vs, eDl⟩ := eDl
    refine ⟨rfl, iteT (B := Qn H2) ⟨.ref b, rfl, listOf (.inr hb) fun p H4 s4 np e4 => hk _ H4 (fun j2 h2 => ?_) s4⟩⟩
    rw [hj] at h2
    cases h2
    exact ⟨p, rfl, ne_of_none_r eDl np, e4⟩
  have pu2 : Paired (fun x j => LstT H2 Dl x (jv j)) us js := paired_range pu lts fun i x j hj h => h j hj
  refine ⟨.ref Dl, some (itsOf js), rfl, ⟨Dl, us, rfl, .inl eDl, lst_its pu2, by unfold itsOf; rw [List.length_map]; omega⟩, chkd_good hok (by omega) fun H3 b3 s3 hb3 => ?_⟩
  have s13 := s2.trans s3
  refine ⟨.ref a, rfl, .ref a, some (itsOf js), rfl, jb_of (jt.same s13) (by omega), chkd_good hok (by omega) fun H4 b4 s4 hb4 => ⟨rfl, _, rfl, iteFq (neB (Bool.eq_iff_iff.mpr (hb3.trans hb4.symm))) ?_⟩⟩
  have s14 := s13.trans s4
  have ha4 := s14 _ _ ha
  refine ⟨.ref a, rfl, a, rfl, ⟨_, sqT ha4⟩, lcTupD (fun D i H y => ∀ j, js[i]? = some j → LstT H D y (jv j)) (fun D i H H' x s h j hj => (h j hj).imp fun b h => ⟨h.1, h.2.1, s _ _ h.2.2⟩) (fun D i H x us ys e _ h j hj => (h j hj).imp fun b h => ⟨h.1, h.2.1, by rw [upd_ne h.2.1]; exact h.2.2⟩) ha4 (by omega) (fun Dl i y H5 Qk Qn hy s5 nDl eDl hk => ?_) (fun Dl H5 vs nDl s5 eDl pv => ?_)⟩
  · obtain ⟨j, b, hj, rfl, hb⟩ := jobs_got (pt.same (s14.trans s5)) hy
    obtain ⟨vs, eDl⟩ := eDl
    refine ⟨rfl, iteT (B := Qn H5) ⟨.ref b, rfl, listOf (.inr hb) fun p H4 s4 np e4 => hk _ H4 (fun j2 h2 => ?_) s4⟩⟩
    rw [hj] at h2
    cases h2
    exact ⟨p, rfl, ne_of_none_r eDl np, e4⟩
  have pv2 : Paired (fun x j => LstT H5 Dl x (jv j)) vs js := paired_range pv lts fun i x j hj h => h j hj
  have s15 := s14.trans s5
  refine ⟨.ref Dl, some (itsOf js), rfl, ⟨Dl, vs, rfl, .inl eDl, lst_its pv2, by unfold itsOf; rw [List.length_map]; omega⟩, chkd_good hok (by omega) fun V H6 s6 eV => ?_⟩
  have s16 := s15.trans s6
  have hU6 := s16 _ _ hU
  refine ⟨.ref U, rfl, _, _, dpI (ks := [((low (frac js)).1 : Nat), ((low (frac js)).2 : Nat)]) eV, dpI (ks := [((low (frac js)).1 : Nat), ((low (frac js)).2 : Nat)]) hU6, shI _, shI _, _, rfl, iteTq (eqIr _) ?_⟩
  exact ⟨.ref N, rfl, .ref a, rfl, N, a, js, rfl, hn.same s16, jt.same s16, hl, hok, fun H' => q H'⟩
theorem law_tail {k : Nat} (D : Pr P K mg) (f : Addr) (cdv : Value) (A : Around) (outer : List Env) (s : Shared) (H0 : Hp) (Q : VK) (E : XK) (hr : Room (k + 6) (A.deeper (envOfC "law" (defScope s_law) s.heap.objs.size f cdv))) :
    ∃ t, PSs (cxOf (CX P w) P w K mg base n_law "law" (defScope s_law) f cdv A outer s H0 E) ((defBody s_law).drop 10) t ∧ ∀ (c0 c5 c7 c8 c9 c10 c11 : Option V) (N a U : Addr) (js : List Job) (dv sm : Bool) (H : Hp), NumsAt H N → JT H a js → H U = some (.tup [.int ((low (frac js)).1 : Nat), .int ((low (frac js)).2 : Nat)]) →
      (sm = true ↔ AllF (rankd js (byP js))) → (dv = true → (AllF js ↔ (frac js).1 ≤ (frac js).2)) → (∀ H', Q (.bl true) H') →
      t { nx := fun _ H' => Q V.non H', rt := Q } [c0, some (.ref N), some (.bl dv), some (.ref a), some (.ref U), c5, some (.bl sm), c7, c8, c9, c10, c11] H := by
  have G_load : FnOk P w K mg base (CX P w) (k + 4) D.load.f D.load.fd ["jobs"] (spLoad D.BadNumber.C D.TooMany.C) := ok_load D
  have G_by_periods : FnOk P w K mg base (CX P w) (k + 4) D.by_periods.f D.by_periods.fd ["jobs"] (spByP D.BadNumber.C D.TooMany.C) := ok_byP D
  have G_never_misses : FnOk P w K mg base (CX P w) (k + 4) D.never_misses.f D.never_misses.fd ["jobs"] (spNever D.BadNumber.C D.TooMany.C) := ok_never D
  have G__law_refusals_fit : FnOk P w K mg base CX0 (k + 6) D._law_refusals_fit.f D._law_refusals_fit.fd ["numbers", "jobs"] spRfit := ok_rfit D
  obtain ⟨tT, hT, rT⟩ := law_end (w := w) (P := P) (base := base) D f cdv A outer s H0 Q E hr
  refine ⟨_, (pss_cons (ps_if (pt_cmpR op_ne (pe_call G_never_misses (hr.mono (by omega)) (by rfl) D.never_misses.g D.never_misses.F.kp D.never_misses.b .nil (passes_call (takes_of rfl rfl rfl rfl) (fun _ _ _ _ h => h)) (pa_cons (pe_callTy call_tuple_of (by rfl) D.B.tuple (by decide +kernel) (pa_cons (pe_lc (own := [("place", 9)]) (g := (gName 9)) (tt := tYes) rfl sc_law.nd (pi_tup (pe_call G_by_periods (hr.mono (by omega)) (by rfl) D.by_periods.g D.by_periods.F.kp D.by_periods.b .nil (passes_call (takes_of rfl rfl rfl rfl) (fun _ _ _ _ h => h)) (pa_cons (pv 3) pa_nil))) (blkOk_by (own := [("place", 9)]) (N := n_law) (sc := defScope s_law) (by decide +kernel)) (fun _ _ _ _ _ => (pg_name (i := 9) sc_law.nd rfl (.inl rfl))) (fun _ _ _ _ _ => pts_nil) (fun _ _ _ _ _ => (pe_ix (r := rIxT K) ix_tup (pv 3) (pv 9) (fun _ _ => rfl)))) pa_nil)) pa_nil)) (pv 6) (nomark _)) (pss_one (ps_ret pe_bl)) pss_nil)
      (pss_cons (ps_if (PW.pt (pw_and (pt_val (pv 2)) (pw_and1 (pt_cmpR op_ne (pe_call G_never_misses (hr.mono (by omega)) (by rfl) D.never_misses.g D.never_misses.F.kp D.never_misses.b .nil (passes_call (takes_of rfl rfl rfl rfl) (fun _ _ _ _ h => h)) (pa_cons (pv 3) pa_nil)) (pe_cmpR op_le (pe_ix (r := rIxT K) ix_tup (pv 4) pe_int (fun _ _ => rfl)) (pe_ix (r := rIxT K) ix_tup (pv 4) pe_int (fun _ _ => rfl)) (nomark _)) (nomark _))))) (pss_one (ps_ret pe_bl)) pss_nil)
      hT)), ?_⟩
  intro c0 c5 c7 c8 c9 c10 c11 N a U js dv sm H hn ⟨jt, hl, hok⟩ hU hsm hdv q
  have hbp := byP_perm js
  have lbp : (byP js).length = js.length := by rw [hbp.length_eq, List.length_range]
  have lrk : (rankd js (byP js)).length = js.length := by unfold rankd; rw [List.length_map, lbp]
  -- the order by periods
  refine ⟨.ref a, rfl, .ref a, some (itsOf js), rfl, jb_of jt (by omega), chkd_good hok (by omega) fun b H1 s1 eB => ?_⟩
  have jt1 := jt.same s1
  refine ⟨b, rfl, ⟨_, sqT eB⟩, lcTup (fun i H y => ∀ x, (byP js)[i]? = some x → TupT H y (jv (jobAt js x))) (fun i H H' x s h k hk => (h k hk).same s) (fun D i H x us ys e _ h k hk => tup_upd e (h k hk)) eB (by rw [nts_len]; omega) (fun Dl i y H2 Qk Qn hy s2 nDl eDl hk => ?_) (fun Dl H2 us nDl s2 eDl pu => ?_)⟩
  · obtain ⟨x, hx, rfl⟩ := nts_get hy
    have hxl : x < js.length := List.mem_range.mp (hbp.mem_iff.mp (List.mem_of_getElem? hx))
    obtain ⟨ts, ha, pt⟩ := jt1.same s2
    obtain ⟨b', hb', hj', hbe'⟩ := jobs_at pt hxl
    refine ⟨rfl, iteT (B := Qn H2) ⟨.ref a, rfl, .int x, rfl, a, ts, x, .ref b', rfl, rfl, sqT ha, atI_nat hb', hk _ H2 (fun x2 h2 => ?_) (Same.refl _)⟩⟩
    rw [hx] at h2
    cases h2
    exact ⟨b', rfl, hbe'⟩
  refine ⟨Dl, us, rfl, .inl ⟨sqL eDl, fun l nl => ?_⟩⟩
  have sl := same_upd nl (o := .tup us)
  have jr : JobsT (upd H2 l (.tup us)) l (rankd js (byP js)) := ⟨us, upd_same, (ranked_row pu).same sl⟩
  have okr := rankd_ok hok (o := byP js) fun x hx => List.mem_range.mp (hbp.mem_iff.mp hx)
  refine ⟨.ref l, some (itsOf (rankd js (byP js))), rfl, jb_of jr (by omega), chkd_good okr (by omega) fun H3 b3 s3 hb3 => ⟨.bl sm, rfl, rfl, _, rfl, iteFq (neB ?_) ?_⟩⟩
  · exact Bool.eq_iff_iff.mpr (hb3.trans hsm.symm)
  have s13 := s1.trans (s2.trans (sl.trans s3))
  have jt3 := jt.same s13
  refine ⟨_, rfl, dv, rfl, ?_⟩
  cases dv with
  | false => exact iteFq rfl (rT _ _ _ _ _ _ _ N a U js false sm H3 (hn.same s13) ⟨jt3, hl, hok⟩ (s13 _ _ hU) q)
  | true =>
    refine iteTq rfl ⟨.ref a, rfl, .ref a, some (itsOf js), rfl, jb_of jt3 (by omega), chkd_good hok (by omega) fun H4 b4 s4 hb4 => ?_⟩
    have s14 := s13.trans s4
    have hU4 := s14 _ _ hU
    refine ⟨.ref U, rfl, U, _, 0, _, rfl, rfl, sqT hU4, atI_nat (j := 0) rfl, .ref U, rfl, U, _, 1, _, rfl, rfl, sqT hU4, atI_nat (j := 1) rfl, _, _, rfl, rfl, rfl, _, rfl, iteFq (neB (Bool.eq_iff_iff.mpr ?_)) (rT _ _ _ _ _ _ _ N a U js true sm H4 (hn.same s14) ⟨jt.same s14, hl, hok⟩ hU4 q)⟩
    rw [hb4, hdv rfl, ← low_le_iff (x := frac js) (frac_pos hok (x := (0, 1)) (by decide)), decide_eq_true_iff]
    omega
end
end K7

set_option Elab.async false
set_option linter.all false
set_option maxRecDepth 100000
set_option maxHeartbeats 4000000
namespace K7
open PySem PySem.Spec PyProof.Rows L2 GX NdefX
/-! ### law: all orders; the beginning -/
section
variable {P : Program} {w : World} {K : PySem.W.Frag} {mg : Str → Option Value} {base : Heap}
theorem law_loop {k : Nat} (D : Pr P K mg) (f : Addr) (cdv : Value) (A : Around) (outer : List Env) (s : Shared) (H0 : Hp) (Q : VK) (E : XK) (hr : Room (k + 6) (A.deeper (envOfC "law" (defScope s_law) s.heap.objs.size f cdv))) :
    ∃ t, PSs (cxOf (CX P w) P w K mg base n_law "law" (defScope s_law) f cdv A outer s H0 E) ((defBody s_law).drop 8) t ∧ ∀ (c0 c5 c6 c7 c8 c9 c10 c11 : Option V) (N a U : Addr) (js : List Job) (dv : Bool) (H : Hp), NumsAt H N → JT H a js → H U = some (.tup [.int ((low (frac js)).1 : Nat), .int ((low (frac js)).2 : Nat)]) →
      (dv = true → (AllF js ↔ (frac js).1 ≤ (frac js).2)) → (∀ H', Q (.bl true) H') →
      t { nx := fun _ H' => Q V.non H', rt := Q } [c0, some (.ref N), some (.bl dv), some (.ref a), some (.ref U), c5, c6, c7, c8, c9, c10, c11] H := by
  have G_never_misses : FnOk P w K mg base (CX P w) (k + 4) D.never_misses.f D.never_misses.fd ["jobs"] (spNever D.BadNumber.C D.TooMany.C) := ok_never D
  have G__law_orders : FnOk P w K mg base CX0 (k + 1) D._law_orders.f D._law_orders.fd ["many"] spOrders := ok_orders D
  have G__law_well : FnOk P w K mg base CX0 (k + 1) D._law_well.f D._law_well.fd ["jobs"] spWell := ok_well D
  obtain ⟨tT, hT, rT⟩ := law_tail (w := w) (P := P) (base := base) D f cdv A outer s H0 Q E hr
  refine ⟨_, (pss_cons (ps_set (i := 6) sc_law.nd rfl (.inl rfl) pe_bl)
      (pss_cons (ps_for (by passes_own) rfl (pi_list (pe_call G__law_orders (hr.mono (by omega)) (by rfl) D._law_orders.g D._law_orders.F.kp D._law_orders.b .nil pass0 (pa_cons (pe_callB call_len (by rfl) D.B.len PySem.boot_len (pa_cons (pv 3) pa_nil)) pa_nil))) (pg_name (i := 7) sc_law.nd rfl (.inl rfl)) (pss_cons (ps_set (i := 8) sc_law.nd rfl (.inl rfl) (pe_callTy call_tuple_of (by rfl) D.B.tuple (by decide +kernel) (pa_cons (pe_lc (own := [("place", 9)]) (g := (gName 9)) (tt := tYes) rfl sc_law.nd (pi_tup (pv 7)) (blkOk_by (own := [("place", 9)]) (N := n_law) (sc := defScope s_law) (by decide +kernel)) (fun _ _ _ _ _ => (pg_name (i := 9) sc_law.nd rfl (.inl rfl))) (fun _ _ _ _ _ => pts_nil) (fun _ _ _ _ _ => (pe_ix (r := rIxT K) ix_tup (pv 3) (pv 9) (fun _ _ => rfl)))) pa_nil))) (pss_cons (ps_set (i := 10) sc_law.nd rfl (.inl rfl) (pe_call G__law_well (hr.mono (by omega)) (by rfl) D._law_well.g D._law_well.F.kp D._law_well.b .nil pass0 (pa_cons (pv 8) pa_nil))) (pss_cons (ps_set (i := 6) sc_law.nd rfl (.inl rfl) (pe_or (pv 6) (pe_one (pv 10)))) (pss_cons (ps_set (i := 5) sc_law.nd rfl (.inl rfl) (pe_call G_never_misses (hr.mono (by omega)) (by rfl) D.never_misses.g D.never_misses.F.kp D.never_misses.b .nil (passes_call (takes_of rfl rfl rfl rfl) (fun _ _ _ _ h => h)) (pa_cons (pv 8) pa_nil))) (pss_one (ps_if (PW.pt (pw_or (pt_not (pt_val (pe_callB call_isi (by rfl) D.B.isinstance (by decide +kernel) (pa_cons (pv 5) (pa_cons (pe_bltn (v := .ty "bool") (u := .type "bool") (by rfl) D.B.bool (by decide +kernel) rfl) pa_nil))))) (pw_or1 (pt_cmpR op_ne (pv 5) (pv 10) (nomark _))))) (pss_one (ps_ret pe_bl)) pss_nil)))))))
      hT)), ?_⟩
  intro c0 c5 c6 c7 c8 c9 c10 c11 N a U js dv H hn ⟨jt, hl, hok⟩ hU hdv q
  obtain ⟨ts, ha, pt⟩ := id jt
  have lts := jt_len pt
  refine ⟨.ref a, rfl, .ref a, js.length, rfl, .inr ⟨_, sqT ha, lts.symm⟩, js.length, rfl, hl, fun O H1 os s1 nO eO po => ?_⟩
  have los : os.length = (ordF js.length).length := by have := po.length; rw [List.length_map] at this; exact this
  refine ⟨O, rfl, ⟨_, sqL eO⟩, ?_⟩
  refine forLs (D := { nx := _, rt := Q }) (xs := os) (fun i σ H' => (∃ c5 c7 c8 c9 c10 c11 sm, σ = [c0, some (.ref N), some (.bl dv), some (.ref a), some (.ref U), c5, some (.bl sm), c7, c8, c9, c10, c11] ∧ (sm = true ↔ ∃ o ∈ (ordF js.length).take i, AllF (rankd js o))) ∧ Same H1 H') eO
    ⟨⟨_, _, _, _, _, _, false, rfl, by simp⟩, Same.refl _⟩ (fun i σ H' h => h.2 _ _ eO) ?_ ?_
  · rintro i x σ H2 hx ⟨⟨c5, c7, c8, c9, c10, c11, sm, rfl, hsm⟩, s2⟩
    obtain ⟨vs, b, hv, rfl, hb⟩ := tups_got (po.same s2) hx
    rw [List.getElem?_map] at hv
    obtain ⟨o, ho, rfl⟩ := Option.map_eq_some_iff.mp hv
    have hop := ordF_perm (List.mem_of_getElem? ho)
    have lo : o.length = js.length := by rw [hop.length_eq, List.length_range]
    have jt2 := jt.same (s1.trans s2)
    have lrk : (rankd js o).length = js.length := by unfold rankd; rw [List.length_map, lo]
    refine ⟨.ref b, rfl, b, rfl, ⟨_, sqT hb⟩, lcTup (fun i H y => ∀ x, o[i]? = some x → TupT H y (jv (jobAt js x))) (fun i H H' x s h k hk => (h k hk).same s) (fun D i H x us ys e _ h k hk => tup_upd e (h k hk)) hb (by rw [nts_len]; omega) (fun Dl i y H3 Qk Qn hy s3 nDl eDl hk => ?_) (fun Dl H3 us nDl s3 eDl pu => ?_)⟩
    · obtain ⟨x, hx, rfl⟩ := nts_get hy
      have hxl : x < js.length := List.mem_range.mp (hop.mem_iff.mp (List.mem_of_getElem? hx))
      obtain ⟨ts, ha, pt⟩ := jt2.same s3
      obtain ⟨b', hb', hj', hbe'⟩ := jobs_at pt hxl
      refine ⟨rfl, iteT (B := Qn H3) ⟨.ref a, rfl, .int x, rfl, a, ts, x, .ref b', rfl, rfl, sqT ha, atI_nat hb', hk _ H3 (fun x2 h2 => ?_) (Same.refl _)⟩⟩
      rw [hx] at h2
      cases h2
      exact ⟨b', rfl, hbe'⟩
    refine ⟨Dl, us, rfl, .inl ⟨sqL eDl, fun l nl => ?_⟩⟩
    have sl := same_upd nl (o := .tup us)
    have jr : JobsT (upd H3 l (.tup us)) l (rankd js o) := ⟨us, upd_same, (ranked_row pu).same sl⟩
    have okr := rankd_ok hok (o := o) fun x hx => List.mem_range.mp (hop.mem_iff.mp hx)
    refine ⟨.ref l, rfl, l, rankd js o, rfl, jr, by omega, okr, fun b1 hb1 => ?_⟩
    have hsm2 : (sm || b1) = true ↔ ∃ o ∈ (ordF js.length).take (i + 1), AllF (rankd js o) := by
      rw [take_get ho, Bool.or_eq_true, hsm, hb1]
      constructor
      · rintro (⟨o', h1, h2⟩ | h)
        · exact ⟨o', List.mem_append_left _ h1, h2⟩
        · exact ⟨o, by simp, h⟩
      · rintro ⟨o', h1, h2⟩
        rcases List.mem_append.mp h1 with z | z
        · exact .inl ⟨o', z, h2⟩
        · rw [List.mem_singleton.mp z] at h2
          exact .inr h2
    refine ⟨.bl sm, rfl, sm, rfl, ?_⟩
    cases sm with
    | true =>
      refine iteTq rfl ?_
      exact ⟨.ref l, rfl, .ref l, some (itsOf (rankd js o)), rfl, jb_of jr (by omega), chkd_good okr (by omega) fun H4 b2 s4 hb2 => ⟨_, rfl, _, _, .type "bool", _, true, rfl, .ty "bool", .base (.bl b2), kit_ty (by decide +kernel), true, rfl, iteFq rfl ⟨_, rfl, _, rfl, rfl, _, rfl, iteFq (neB (Bool.eq_iff_iff.mpr (hb2.trans hb1.symm))) ⟨⟨_, _, _, _, _, _, true, rfl, hsm2⟩, s2.trans (s3.trans (sl.trans s4))⟩⟩⟩⟩
    | false =>
      refine iteFq rfl ⟨.bl b1, rfl, ?_⟩
      exact ⟨.ref l, rfl, .ref l, some (itsOf (rankd js o)), rfl, jb_of jr (by omega), chkd_good okr (by omega) fun H4 b2 s4 hb2 => ⟨_, rfl, _, _, .type "bool", _, true, rfl, .ty "bool", .base (.bl b2), kit_ty (by decide +kernel), true, rfl, iteFq rfl ⟨_, rfl, _, rfl, rfl, _, rfl, iteFq (neB (Bool.eq_iff_iff.mpr (hb2.trans hb1.symm))) ⟨⟨_, _, _, _, _, _, b1, rfl, hsm2⟩, s2.trans (s3.trans (sl.trans s4))⟩⟩⟩⟩
  · rintro σ H2 ⟨⟨c5, c7, c8, c9, c10, c11, sm, rfl, hsm⟩, s2⟩
    rw [los, List.take_length] at hsm
    have s12 := s1.trans s2
    refine rT _ _ _ _ _ _ _ N a U js dv sm H2 (hn.same s12) ⟨jt.same s12, hl, hok⟩ (s12 _ _ hU) ?_ hdv q
    rw [hsm]
    exact ⟨fun ⟨o, h1, h2⟩ => rm_best hok (ordF_perm h1) h2, fun h => ⟨byP js, ordF_mem (byP_perm js), h⟩⟩
end
end K7

set_option Elab.async false
set_option linter.all false
set_option maxRecDepth 100000
set_option maxHeartbeats 4000000
namespace K7
open PySem PySem.Spec PyProof.Rows L2 GX NdefX
/-! ### law -/
def spLaw (K : PySem.W.Frag) : Sp := fun vs H Q _ => ∃ (a : Addr) (ns : List Int), vs = [.ref a] ∧ SqL K H a (ns.map V.int) ∧ ns.length ≤ 63 ∧ ∀ H', Q (.bl true) H'
section
variable {P : Program} {w : World} {K : PySem.W.Frag} {mg : Str → Option Value} {base : Heap}
theorem law_mid {k : Nat} (D : Pr P K mg) (f : Addr) (cdv : Value) (A : Around) (outer : List Env) (s : Shared) (H0 : Hp) (Q : VK) (E : XK) (hr : Room (k + 6) (A.deeper (envOfC "law" (defScope s_law) s.heap.objs.size f cdv))) :
    ∃ t, PSs (cxOf (CX P w) P w K mg base n_law "law" (defScope s_law) f cdv A outer s H0 E) ((defBody s_law).drop 3) t ∧ ∀ (c0 c4 c5 c6 c7 c8 c9 c10 c11 : Option V) (N a : Addr) (js : List Job) (dv : Bool) (H : Hp), NumsAt H N → JT H a js →
      (dv = true → (AllF js ↔ (frac js).1 ≤ (frac js).2)) → (∀ H', Q (.bl true) H') →
      t { nx := fun _ H' => Q V.non H', rt := Q } [c0, some (.ref N), some (.bl dv), some (.ref a), c4, c5, c6, c7, c8, c9, c10, c11] H := by
  have G_load : FnOk P w K mg base (CX P w) (k + 4) D.load.f D.load.fd ["jobs"] (spLoad D.BadNumber.C D.TooMany.C) := ok_load D
  have G_by_periods : FnOk P w K mg base (CX P w) (k + 4) D.by_periods.f D.by_periods.fd ["jobs"] (spByP D.BadNumber.C D.TooMany.C) := ok_byP D
  have G__law_load : FnOk P w K mg base CX0 (k + 2) D._law_load.f D._law_load.fd ["jobs"] spLLoad := ok_lload D
  have G__law_int : FnOk P w K mg base CX0 (k + 1) D._law_int.f D._law_int.fd ["value"] spInt := ok_intD D
  have G__law_by_periods : FnOk P w K mg base CX0 (k + 1) D._law_by_periods.f D._law_by_periods.fd ["jobs"] spLByP := ok_lbyP D
  obtain ⟨tT, hT, rT⟩ := law_loop (w := w) (P := P) (base := base) D f cdv A outer s H0 Q E hr
  refine ⟨_, (pss_cons (ps_set (i := 4) sc_law.nd rfl (.inl rfl) (pe_call G__law_load (hr.mono (by omega)) (by rfl) D._law_load.g D._law_load.F.kp D._law_load.b .nil pass0 (pa_cons (pv 3) pa_nil)))
      (pss_cons (ps_set (i := 5) sc_law.nd rfl (.inl rfl) (pe_call G_load (hr.mono (by omega)) (by rfl) D.load.g D.load.F.kp D.load.b .nil (passes_call (takes_of rfl rfl rfl rfl) (fun _ _ _ _ h => h)) (pa_cons (pv 3) pa_nil)))
      (pss_cons (ps_if (PW.pt (pw_or (pt_not (pt_val (pe_callB call_isi (by rfl) D.B.isinstance (by decide +kernel) (pa_cons (pv 5) (pa_cons (pe_bltn (v := .ty "tuple") (u := .type "tuple") (by rfl) D.B.tuple (by decide +kernel) rfl) pa_nil))))) (pw_or (pt_cmpR (op_neD hr.units) (pv 5) (pv 4) (nomark _)) (pw_or (pt_not (pt_val (pe_call G__law_int (hr.mono (by omega)) (by rfl) D._law_int.g D._law_int.F.kp D._law_int.b .nil pass0 (pa_cons (pe_ix (r := rIxT K) ix_tup (pv 5) pe_int (fun _ _ => rfl)) pa_nil)))) (pw_or1 (pt_not (pt_val (pe_call G__law_int (hr.mono (by omega)) (by rfl) D._law_int.g D._law_int.F.kp D._law_int.b .nil pass0 (pa_cons (pe_ix (r := rIxT K) ix_tup (pv 5) pe_int (fun _ _ => rfl)) pa_nil))))))))) (pss_one (ps_ret pe_bl)) pss_nil)
      (pss_cons (ps_set (i := 5) sc_law.nd rfl (.inl rfl) (pe_call G_by_periods (hr.mono (by omega)) (by rfl) D.by_periods.g D.by_periods.F.kp D.by_periods.b .nil (passes_call (takes_of rfl rfl rfl rfl) (fun _ _ _ _ h => h)) (pa_cons (pv 3) pa_nil)))
      (pss_cons (ps_if (PW.pt (pw_or (pt_not (pt_val (pe_callB call_isi (by rfl) D.B.isinstance (by decide +kernel) (pa_cons (pv 5) (pa_cons (pe_bltn (v := .ty "tuple") (u := .type "tuple") (by rfl) D.B.tuple (by decide +kernel) rfl) pa_nil))))) (pw_or1 (pt_cmpR (op_neD hr.units) (pv 5) (pe_call G__law_by_periods (hr.mono (by omega)) (by rfl) D._law_by_periods.g D._law_by_periods.F.kp D._law_by_periods.b .nil pass0 (pa_cons (pv 3) pa_nil)) (nomark _))))) (pss_one (ps_ret pe_bl)) pss_nil)
      hT))))), ?_⟩
  intro c0 c4 c5 c6 c7 c8 c9 c10 c11 N a js dv H hn ⟨jt, hl, hok⟩ hdv q
  refine ⟨.ref a, rfl, a, js, rfl, jt, by omega, hok, fun U H1 s1 eU => ?_⟩
  refine ⟨.ref a, rfl, .ref a, some (itsOf js), rfl, jb_of (jt.same s1) (by omega), chkd_good hok (by omega) fun V2 H2 s2 eV => ?_⟩
  have eU2 := s2 _ _ eU
  refine ⟨_, rfl, _, _, .type "tuple", _, true, rfl, .ty "tuple", .base (.tup eV), kit_ty (by decide +kernel), true, rfl, iteFq rfl ?_⟩
  refine ⟨_, rfl, .ref U, rfl, _, _, dpI (ks := [((low (frac js)).1 : Nat), ((low (frac js)).2 : Nat)]) eV, dpI (ks := [((low (frac js)).1 : Nat), ((low (frac js)).2 : Nat)]) eU2, shI _, shI _, _, rfl, iteFq (by rw [eqIr]; rfl) ?_⟩
  refine ⟨.ref V2, rfl, V2, _, 0, _, rfl, rfl, sqT eV, atI_nat (j := 0) rfl, _, rfl, true, rfl, iteFq rfl ⟨.ref V2, rfl, V2, _, 1, _, rfl, rfl, sqT eV, atI_nat (j := 1) rfl, _, rfl, true, rfl, iteFq rfl ?_⟩⟩
  have s12 := s1.trans s2
  refine ⟨.ref a, rfl, .ref a, some (itsOf js), rfl, jb_of (jt.same s12) (by omega), chkd_good hok (by omega) fun V3 H3 s3 eV3 => ?_⟩
  have s13 := s12.trans s3
  refine ⟨_, rfl, _, _, .type "tuple", _, true, rfl, .ty "tuple", .base (.tup eV3), kit_ty (by decide +kernel), true, rfl, iteFq rfl ?_⟩
  refine ⟨_, rfl, .ref a, rfl, a, js, rfl, jt.same s13, by omega, hok, fun V4 H4 s4 eV4 => ?_⟩
  have eV34 := s4 _ _ eV3
  rw [nts_ints] at eV34 eV4
  refine ⟨_, _, dpI eV34, dpI eV4, shI _, shI _, _, rfl, iteFq (by rw [eqIr]; rfl) ?_⟩
  have s14 := s13.trans s4
  exact rT _ _ _ _ _ _ _ _ N a U js dv H4 (hn.same s14) ⟨jt.same s14, hl, hok⟩ (s4 _ _ (s3 _ _ eU2)) hdv q
theorem ok_law {k : Nat} (D : Pr P K mg) {f : Addr} {fd : FuncData} (F : Fun K "law" "law" s_law f fd) : FnOk P w K mg base (CX P w) (k + 7) f fd ["script"] (spLaw K) := by
  have G__law_numbers : FnOk P w K mg base CX0 (k + 1) D._law_numbers.f D._law_numbers.fd ["script"] (spLNums K) := ok_numsD D
  have G__law_draw : FnOk P w K mg base CX0 (k + 1) D._law_draw.f D._law_draw.fd ["numbers", "many"] spDraw := ok_drawD D
  have G__law_dividing : FnOk P w K mg base CX0 (k + 2) D._law_dividing.f D._law_dividing.fd ["numbers"] (spJobs OkDiv) := ok_dividing D
  have G__law_any_jobs : FnOk P w K mg base CX0 (k + 2) D._law_any_jobs.f D._law_any_jobs.fd ["numbers"] (spJobs OkJobs) := ok_any_jobs D
  refine F.okX sc_law (fun vs H Q E h => ?_) (fun cdv A outer s H vs Q E hr h => ?_)
  · obtain ⟨a, ns, rfl, _⟩ := h
    rfl
  · obtain ⟨a, ns, rfl, hq, hl, q⟩ := h
    obtain ⟨tT, hT, rT⟩ := law_mid (w := w) (P := P) (base := base) D f cdv A outer s H Q E hr
    refine ⟨_, (pss_cons (ps_set (i := 1) sc_law.nd rfl (.inl rfl) (pe_call G__law_numbers (hr.mono (by omega)) (by rfl) D._law_numbers.g D._law_numbers.F.kp D._law_numbers.b .nil pass0 (pa_cons (pv 0) pa_nil)))
      (pss_cons (ps_set (i := 2) sc_law.nd rfl (.inl rfl) (pe_cmpR op_eq (pe_call G__law_draw (hr.mono (by omega)) (by rfl) D._law_draw.g D._law_draw.F.kp D._law_draw.b .nil pass0 (pa_cons (pv 1) (pa_cons pe_int pa_nil))) pe_int (nomark _)))
      (pss_cons (ps_if (pt_val (pv 2)) (pss_one (ps_set (i := 3) sc_law.nd rfl (.inr rfl) (pe_callTy call_tuple_of (by rfl) D.B.tuple (by decide +kernel) (pa_cons (pe_call G__law_dividing (hr.mono (by omega)) (by rfl) D._law_dividing.g D._law_dividing.F.kp D._law_dividing.b .nil pass0 (pa_cons (pv 1) pa_nil)) pa_nil)))) (pss_one (ps_set (i := 3) sc_law.nd rfl (.inr rfl) (pe_callTy call_tuple_of (by rfl) D.B.tuple (by decide +kernel) (pa_cons (pe_call G__law_any_jobs (hr.mono (by omega)) (by rfl) D._law_any_jobs.g D._law_any_jobs.F.kp D._law_any_jobs.b .nil pass0 (pa_cons (pv 1) pa_nil)) pa_nil)))))
      hT))), ?_⟩
    refine ⟨.ref a, rfl, a, ns, rfl, hq, hl, fun N H1 nl s1 nN eN hnl => ?_⟩
    have n1 : NumsAt H1 N := ⟨nl, eN, hnl⟩
    refine ⟨.ref N, rfl, N, 2, rfl, by decide, n1, fun H2 r hr2 s2 n2 => ⟨rfl, ?_⟩⟩
    refine ⟨_, rfl, decide (V.int (r : Nat) = V.int 1), rfl, ?_⟩
    by_cases h1 : r = 1
    · have e : decide (V.int (r : Nat) = V.int 1) = true := decide_eq_true (by rw [h1]; rfl)
      rw [e]
      refine iteTq rfl ⟨.ref N, rfl, N, rfl, n2, fun J H3 js s3 n3 nJ ⟨ts, eJ, pt⟩ ⟨hl1, hl4, hok, hd⟩ => ⟨J, ts, rfl, .inl ⟨sqL eJ, fun l nl => ?_⟩⟩⟩
      exact rT _ _ _ _ _ _ _ _ _ N l js true _ (n3.same (same_upd nl)) ⟨⟨ts, upd_same, pt.same (same_upd nl)⟩, hl4, hok⟩ (fun _ => dividing_iff hok hl1 hd) q
    · have e : decide (V.int (r : Nat) = V.int 1) = false := decide_eq_false fun z => h1 (by have := V.int.inj z; omega)
      rw [e]
      refine iteFq rfl ⟨.ref N, rfl, N, rfl, n2, fun J H3 js s3 n3 nJ ⟨ts, eJ, pt⟩ ⟨hl4, hok⟩ => ⟨J, ts, rfl, .inl ⟨sqL eJ, fun l nl => ?_⟩⟩⟩
      exact rT _ _ _ _ _ _ _ _ _ N l js false _ (n3.same (same_upd nl)) ⟨⟨ts, upd_same, pt.same (same_upd nl)⟩, hl4, hok⟩ (fun z => nomatch z) q
end
end K7

set_option Elab.async false
set_option linter.all false
set_option maxRecDepth 100000
set_option maxHeartbeats 4000000
namespace K7
open PySem PySem.Spec PyProof.Rows L2 GX NdefX
theorem exm_of {K : PySem.W.Frag} {S C : Addr} {b : Bool} (h1 : PySem.W.subIn K (.ref C) (.type "BaseException") = some true) (h2 : PySem.W.isClsIn K C = true) (h3 : PySem.W.typeIn K (.ref C) = some (.type "type")) (h4 : PySem.W.subIn K (.ref S) (.ref C) = some b) :
    PySem.W.exmOne K (.ref S) (.ref C) = some b := by
  have e1 : (PySem.W.subIn K (.ref C) (.type "BaseException") == some true) = true := by rw [h1] <;> rfl
  have e2 : ((PySem.W.clsIn K C).isSome && PySem.W.typeIn K (.ref C) == some (.type "type")) = true := by
    have h2' : (PySem.W.clsIn K C).isSome = true := h2
    rw [h2', h3] <;> rfl
  show (if (PySem.W.subIn K (.ref C) (.type "BaseException") == some true) = true then (if ((PySem.W.clsIn K C).isSome && PySem.W.typeIn K (.ref C) == some (.type "type")) = true then PySem.W.subIn K (.ref S) (.ref C) else none) else none) = some b
  rw [if_pos e1, if_pos e2]
  exact h4
theorem all_mk {P : Program} {w : World} {K : PySem.W.Frag} {h : Heap} {mg : Str → Option Value} {fa : Addr} (X : K.In h) (G : h.Ns mainGlobals mg) (hfa : mg "law" = some (.ref fa))
    {fpis_whole fpis_listed fpis_time fpcheck_jobs fp_rounded_up fp_row fpnever_misses fpby_periods fpload fp_law_numbers fp_law_draw fp_law_int fp_law_any_jobs fp_law_dividing fp_law_lowest fp_law_load fp_law_well fp_law_orders fp_law_by_periods fp_law_refused fp_law_refusals_fit flaw ARungsError CBadNumber iBadNumber ccBadNumber cdaBadNumber NBadNumber CTooMany iTooMany ccTooMany cdaTooMany NTooMany : Addr}
    {ocpis_whole kVpis_whole dcpis_whole pmpis_whole cdpis_whole ctpis_whole ocpis_listed kVpis_listed dcpis_listed pmpis_listed cdpis_listed ctpis_listed ocpis_time kVpis_time dcpis_time pmpis_time cdpis_time ctpis_time ocpcheck_jobs kVpcheck_jobs dcpcheck_jobs pmpcheck_jobs cdpcheck_jobs ctpcheck_jobs ocp_rounded_up kVp_rounded_up dcp_rounded_up pmp_rounded_up cdp_rounded_up ctp_rounded_up ocp_row kVp_row dcp_row pmp_row cdp_row ctp_row ocpnever_misses kVpnever_misses dcpnever_misses pmpnever_misses cdpnever_misses ctpnever_misses ocpby_periods kVpby_periods dcpby_periods pmpby_periods cdpby_periods ctpby_periods ocpload kVpload dcpload pmpload cdpload ctpload ocp_law_numbers kVp_law_numbers dcp_law_numbers pmp_law_numbers cdp_law_numbers ctp_law_numbers ocp_law_draw kVp_law_draw dcp_law_draw pmp_law_draw cdp_law_draw ctp_law_draw ocp_law_int kVp_law_int dcp_law_int pmp_law_int cdp_law_int ctp_law_int ocp_law_any_jobs kVp_law_any_jobs dcp_law_any_jobs pmp_law_any_jobs cdp_law_any_jobs ctp_law_any_jobs ocp_law_dividing kVp_law_dividing dcp_law_dividing pmp_law_dividing cdp_law_dividing ctp_law_dividing ocp_law_lowest kVp_law_lowest dcp_law_lowest pmp_law_lowest cdp_law_lowest ctp_law_lowest ocp_law_load kVp_law_load dcp_law_load pmp_law_load cdp_law_load ctp_law_load ocp_law_well kVp_law_well dcp_law_well pmp_law_well cdp_law_well ctp_law_well ocp_law_orders kVp_law_orders dcp_law_orders pmp_law_orders cdp_law_orders ctp_law_orders ocp_law_by_periods kVp_law_by_periods dcp_law_by_periods pmp_law_by_periods cdp_law_by_periods ctp_law_by_periods ocp_law_refused kVp_law_refused dcp_law_refused pmp_law_refused cdp_law_refused ctp_law_refused ocp_law_refusals_fit kVp_law_refusals_fit dcp_law_refusals_fit pmp_law_refusals_fit cdp_law_refusals_fit ctp_law_refusals_fit oclaw kVlaw dclaw pmlaw cdlaw ctlaw oiBadNumber kViBadNumber dciBadNumber pmiBadNumber ctiBadNumber cclBadNumber clBadNumber oiTooMany kViTooMany dciTooMany pmiTooMany ctiTooMany cclTooMany clTooMany : Value}
    {odpis_whole anpis_whole odpis_listed anpis_listed odpis_time anpis_time odpcheck_jobs anpcheck_jobs odp_rounded_up anp_rounded_up odp_row anp_row odpnever_misses anpnever_misses odpby_periods anpby_periods odpload anpload odp_law_numbers anp_law_numbers odp_law_draw anp_law_draw odp_law_int anp_law_int odp_law_any_jobs anp_law_any_jobs odp_law_dividing anp_law_dividing odp_law_lowest anp_law_lowest odp_law_load anp_law_load odp_law_well anp_law_well odp_law_orders anp_law_orders odp_law_by_periods anp_law_by_periods odp_law_refused anp_law_refused odp_law_refusals_fit anp_law_refusals_fit odlaw anlaw diBadNumber aniBadNumber cddBadNumber cldBadNumber ddBadNumber diTooMany aniTooMany cddTooMany cldTooMany ddTooMany : Option Addr}
    {slpis_whole slpis_listed slpis_time slpcheck_jobs slp_rounded_up slp_row slpnever_misses slpby_periods slpload slp_law_numbers slp_law_draw slp_law_int slp_law_any_jobs slp_law_dividing slp_law_lowest slp_law_load slp_law_well slp_law_orders slp_law_by_periods slp_law_refused slp_law_refusals_fit sllaw sliBadNumber ccsBadNumber cslBadNumber sliTooMany ccsTooMany cslTooMany : Array (Option Value)}
    {vsBadNumber vsTooMany : Array Value}
    {tfBadNumber tfTooMany : Tok}
    {nmBadNumber qBadNumber fileBadNumber nmTooMany qTooMany fileTooMany : Str}
    {bsBadNumber subBadNumber bsTooMany subTooMany : List Value}
    {snBadNumber snTooMany : List Str}
    {abBadNumber abTooMany : Bool}
    {colBadNumber colTooMany : Option Bool}
    {m0BadNumber m1BadNumber m2BadNumber m3BadNumber m5BadNumber m0TooMany m1TooMany m2TooMany m3TooMany m5TooMany : Option Value}
    
    (apis_whole : PySem.W.nsIn K mainGlobals "is_whole" = some (some (.ref fpis_whole)))
    (lpis_whole : K.lookup fpis_whole = some ⟨ocpis_whole, odpis_whole, .func (PySem.W.fnOf "is_whole" "is_whole" (defArgs s_is_whole) (defBody s_is_whole) (defScope s_is_whole) .none kVpis_whole dcpis_whole pmpis_whole anpis_whole cdpis_whole ctpis_whole), slpis_whole⟩)
    (cpis_whole : PySem.W.codeIn K cdpis_whole "is_whole" = true)
    (kpis_whole : PySem.W.keepIn K (.ref fpis_whole) = true)
    (apis_listed : PySem.W.nsIn K mainGlobals "is_listed" = some (some (.ref fpis_listed)))
    (lpis_listed : K.lookup fpis_listed = some ⟨ocpis_listed, odpis_listed, .func (PySem.W.fnOf "is_listed" "is_listed" (defArgs s_is_listed) (defBody s_is_listed) (defScope s_is_listed) .none kVpis_listed dcpis_listed pmpis_listed anpis_listed cdpis_listed ctpis_listed), slpis_listed⟩)
    (cpis_listed : PySem.W.codeIn K cdpis_listed "is_listed" = true)
    (kpis_listed : PySem.W.keepIn K (.ref fpis_listed) = true)
    (apis_time : PySem.W.nsIn K mainGlobals "is_time" = some (some (.ref fpis_time)))
    (lpis_time : K.lookup fpis_time = some ⟨ocpis_time, odpis_time, .func (PySem.W.fnOf "is_time" "is_time" (defArgs s_is_time) (defBody s_is_time) (defScope s_is_time) .none kVpis_time dcpis_time pmpis_time anpis_time cdpis_time ctpis_time), slpis_time⟩)
    (cpis_time : PySem.W.codeIn K cdpis_time "is_time" = true)
    (kpis_time : PySem.W.keepIn K (.ref fpis_time) = true)
    (apcheck_jobs : PySem.W.nsIn K mainGlobals "check_jobs" = some (some (.ref fpcheck_jobs)))
    (lpcheck_jobs : K.lookup fpcheck_jobs = some ⟨ocpcheck_jobs, odpcheck_jobs, .func (PySem.W.fnOf "check_jobs" "check_jobs" (defArgs s_check_jobs) (defBody s_check_jobs) (defScope s_check_jobs) .none kVpcheck_jobs dcpcheck_jobs pmpcheck_jobs anpcheck_jobs cdpcheck_jobs ctpcheck_jobs), slpcheck_jobs⟩)
    (cpcheck_jobs : PySem.W.codeIn K cdpcheck_jobs "check_jobs" = true)
    (kpcheck_jobs : PySem.W.keepIn K (.ref fpcheck_jobs) = true)
    (ap_rounded_up : PySem.W.nsIn K mainGlobals "_rounded_up" = some (some (.ref fp_rounded_up)))
    (lp_rounded_up : K.lookup fp_rounded_up = some ⟨ocp_rounded_up, odp_rounded_up, .func (PySem.W.fnOf "_rounded_up" "_rounded_up" (defArgs s__rounded_up) (defBody s__rounded_up) (defScope s__rounded_up) .none kVp_rounded_up dcp_rounded_up pmp_rounded_up anp_rounded_up cdp_rounded_up ctp_rounded_up), slp_rounded_up⟩)
    (cp_rounded_up : PySem.W.codeIn K cdp_rounded_up "_rounded_up" = true)
    (kp_rounded_up : PySem.W.keepIn K (.ref fp_rounded_up) = true)
    (ap_row : PySem.W.nsIn K mainGlobals "_row" = some (some (.ref fp_row)))
    (lp_row : K.lookup fp_row = some ⟨ocp_row, odp_row, .func (PySem.W.fnOf "_row" "_row" (defArgs s__row) (defBody s__row) (defScope s__row) .none kVp_row dcp_row pmp_row anp_row cdp_row ctp_row), slp_row⟩)
    (cp_row : PySem.W.codeIn K cdp_row "_row" = true)
    (kp_row : PySem.W.keepIn K (.ref fp_row) = true)
    (apnever_misses : PySem.W.nsIn K mainGlobals "never_misses" = some (some (.ref fpnever_misses)))
    (lpnever_misses : K.lookup fpnever_misses = some ⟨ocpnever_misses, odpnever_misses, .func (PySem.W.fnOf "never_misses" "never_misses" (defArgs s_never_misses) (defBody s_never_misses) (defScope s_never_misses) .none kVpnever_misses dcpnever_misses pmpnever_misses anpnever_misses cdpnever_misses ctpnever_misses), slpnever_misses⟩)
    (cpnever_misses : PySem.W.codeIn K cdpnever_misses "never_misses" = true)
    (kpnever_misses : PySem.W.keepIn K (.ref fpnever_misses) = true)
    (apby_periods : PySem.W.nsIn K mainGlobals "by_periods" = some (some (.ref fpby_periods)))
    (lpby_periods : K.lookup fpby_periods = some ⟨ocpby_periods, odpby_periods, .func (PySem.W.fnOf "by_periods" "by_periods" (defArgs s_by_periods) (defBody s_by_periods) (defScope s_by_periods) .none kVpby_periods dcpby_periods pmpby_periods anpby_periods cdpby_periods ctpby_periods), slpby_periods⟩)
    (cpby_periods : PySem.W.codeIn K cdpby_periods "by_periods" = true)
    (kpby_periods : PySem.W.keepIn K (.ref fpby_periods) = true)
    (apload : PySem.W.nsIn K mainGlobals "load" = some (some (.ref fpload)))
    (lpload : K.lookup fpload = some ⟨ocpload, odpload, .func (PySem.W.fnOf "load" "load" (defArgs s_load) (defBody s_load) (defScope s_load) .none kVpload dcpload pmpload anpload cdpload ctpload), slpload⟩)
    (cpload : PySem.W.codeIn K cdpload "load" = true)
    (kpload : PySem.W.keepIn K (.ref fpload) = true)
    (ap_law_numbers : PySem.W.nsIn K mainGlobals "_law_numbers" = some (some (.ref fp_law_numbers)))
    (lp_law_numbers : K.lookup fp_law_numbers = some ⟨ocp_law_numbers, odp_law_numbers, .func (PySem.W.fnOf "_law_numbers" "_law_numbers" (defArgs s__law_numbers) (defBody s__law_numbers) (defScope s__law_numbers) .none kVp_law_numbers dcp_law_numbers pmp_law_numbers anp_law_numbers cdp_law_numbers ctp_law_numbers), slp_law_numbers⟩)
    (cp_law_numbers : PySem.W.codeIn K cdp_law_numbers "_law_numbers" = true)
    (kp_law_numbers : PySem.W.keepIn K (.ref fp_law_numbers) = true)
    (ap_law_draw : PySem.W.nsIn K mainGlobals "_law_draw" = some (some (.ref fp_law_draw)))
    (lp_law_draw : K.lookup fp_law_draw = some ⟨ocp_law_draw, odp_law_draw, .func (PySem.W.fnOf "_law_draw" "_law_draw" (defArgs s__law_draw) (defBody s__law_draw) (defScope s__law_draw) .none kVp_law_draw dcp_law_draw pmp_law_draw anp_law_draw cdp_law_draw ctp_law_draw), slp_law_draw⟩)
    (cp_law_draw : PySem.W.codeIn K cdp_law_draw "_law_draw" = true)
    (kp_law_draw : PySem.W.keepIn K (.ref fp_law_draw) = true)
    (ap_law_int : PySem.W.nsIn K mainGlobals "_law_int" = some (some (.ref fp_law_int)))
    (lp_law_int : K.lookup fp_law_int = some ⟨ocp_law_int, odp_law_int, .func (PySem.W.fnOf "_law_int" "_law_int" (defArgs s__law_int) (defBody s__law_int) (defScope s__law_int) .none kVp_law_int dcp_law_int pmp_law_int anp_law_int cdp_law_int ctp_law_int), slp_law_int⟩)
    (cp_law_int : PySem.W.codeIn K cdp_law_int "_law_int" = true)
    (kp_law_int : PySem.W.keepIn K (.ref fp_law_int) = true)
    (ap_law_any_jobs : PySem.W.nsIn K mainGlobals "_law_any_jobs" = some (some (.ref fp_law_any_jobs)))
    (lp_law_any_jobs : K.lookup fp_law_any_jobs = some ⟨ocp_law_any_jobs, odp_law_any_jobs, .func (PySem.W.fnOf "_law_any_jobs" "_law_any_jobs" (defArgs s__law_any_jobs) (defBody s__law_any_jobs) (defScope s__law_any_jobs) .none kVp_law_any_jobs dcp_law_any_jobs pmp_law_any_jobs anp_law_any_jobs cdp_law_any_jobs ctp_law_any_jobs), slp_law_any_jobs⟩)
    (cp_law_any_jobs : PySem.W.codeIn K cdp_law_any_jobs "_law_any_jobs" = true)
    (kp_law_any_jobs : PySem.W.keepIn K (.ref fp_law_any_jobs) = true)
    (ap_law_dividing : PySem.W.nsIn K mainGlobals "_law_dividing" = some (some (.ref fp_law_dividing)))
    (lp_law_dividing : K.lookup fp_law_dividing = some ⟨ocp_law_dividing, odp_law_dividing, .func (PySem.W.fnOf "_law_dividing" "_law_dividing" (defArgs s__law_dividing) (defBody s__law_dividing) (defScope s__law_dividing) .none kVp_law_dividing dcp_law_dividing pmp_law_dividing anp_law_dividing cdp_law_dividing ctp_law_dividing), slp_law_dividing⟩)
    (cp_law_dividing : PySem.W.codeIn K cdp_law_dividing "_law_dividing" = true)
    (kp_law_dividing : PySem.W.keepIn K (.ref fp_law_dividing) = true)
    (ap_law_lowest : PySem.W.nsIn K mainGlobals "_law_lowest" = some (some (.ref fp_law_lowest)))
    (lp_law_lowest : K.lookup fp_law_lowest = some ⟨ocp_law_lowest, odp_law_lowest, .func (PySem.W.fnOf "_law_lowest" "_law_lowest" (defArgs s__law_lowest) (defBody s__law_lowest) (defScope s__law_lowest) .none kVp_law_lowest dcp_law_lowest pmp_law_lowest anp_law_lowest cdp_law_lowest ctp_law_lowest), slp_law_lowest⟩)
    (cp_law_lowest : PySem.W.codeIn K cdp_law_lowest "_law_lowest" = true)
    (kp_law_lowest : PySem.W.keepIn K (.ref fp_law_lowest) = true)
    (ap_law_load : PySem.W.nsIn K mainGlobals "_law_load" = some (some (.ref fp_law_load)))
    (lp_law_load : K.lookup fp_law_load = some ⟨ocp_law_load, odp_law_load, .func (PySem.W.fnOf "_law_load" "_law_load" (defArgs s__law_load) (defBody s__law_load) (defScope s__law_load) .none kVp_law_load dcp_law_load pmp_law_load anp_law_load cdp_law_load ctp_law_load), slp_law_load⟩)
    (cp_law_load : PySem.W.codeIn K cdp_law_load "_law_load" = true)
    (kp_law_load : PySem.W.keepIn K (.ref fp_law_load) = true)
    (ap_law_well : PySem.W.nsIn K mainGlobals "_law_well" = some (some (.ref fp_law_well)))
    (lp_law_well : K.lookup fp_law_well = some ⟨ocp_law_well, odp_law_well, .func (PySem.W.fnOf "_law_well" "_law_well" (defArgs s__law_well) (defBody s__law_well) (defScope s__law_well) .none kVp_law_well dcp_law_well pmp_law_well anp_law_well cdp_law_well ctp_law_well), slp_law_well⟩)
    (cp_law_well : PySem.W.codeIn K cdp_law_well "_law_well" = true)
    (kp_law_well : PySem.W.keepIn K (.ref fp_law_well) = true)
    (ap_law_orders : PySem.W.nsIn K mainGlobals "_law_orders" = some (some (.ref fp_law_orders)))
    (lp_law_orders : K.lookup fp_law_orders = some ⟨ocp_law_orders, odp_law_orders, .func (PySem.W.fnOf "_law_orders" "_law_orders" (defArgs s__law_orders) (defBody s__law_orders) (defScope s__law_orders) .none kVp_law_orders dcp_law_orders pmp_law_orders anp_law_orders cdp_law_orders ctp_law_orders), slp_law_orders⟩)
    (cp_law_orders : PySem.W.codeIn K cdp_law_orders "_law_orders" = true)
    (kp_law_orders : PySem.W.keepIn K (.ref fp_law_orders) = true)
    (ap_law_by_periods : PySem.W.nsIn K mainGlobals "_law_by_periods" = some (some (.ref fp_law_by_periods)))
    (lp_law_by_periods : K.lookup fp_law_by_periods = some ⟨ocp_law_by_periods, odp_law_by_periods, .func (PySem.W.fnOf "_law_by_periods" "_law_by_periods" (defArgs s__law_by_periods) (defBody s__law_by_periods) (defScope s__law_by_periods) .none kVp_law_by_periods dcp_law_by_periods pmp_law_by_periods anp_law_by_periods cdp_law_by_periods ctp_law_by_periods), slp_law_by_periods⟩)
    (cp_law_by_periods : PySem.W.codeIn K cdp_law_by_periods "_law_by_periods" = true)
    (kp_law_by_periods : PySem.W.keepIn K (.ref fp_law_by_periods) = true)
    (ap_law_refused : PySem.W.nsIn K mainGlobals "_law_refused" = some (some (.ref fp_law_refused)))
    (lp_law_refused : K.lookup fp_law_refused = some ⟨ocp_law_refused, odp_law_refused, .func (PySem.W.fnOf "_law_refused" "_law_refused" (defArgs s__law_refused) (defBody s__law_refused) (defScope s__law_refused) .none kVp_law_refused dcp_law_refused pmp_law_refused anp_law_refused cdp_law_refused ctp_law_refused), slp_law_refused⟩)
    (cp_law_refused : PySem.W.codeIn K cdp_law_refused "_law_refused" = true)
    (kp_law_refused : PySem.W.keepIn K (.ref fp_law_refused) = true)
    (ap_law_refusals_fit : PySem.W.nsIn K mainGlobals "_law_refusals_fit" = some (some (.ref fp_law_refusals_fit)))
    (lp_law_refusals_fit : K.lookup fp_law_refusals_fit = some ⟨ocp_law_refusals_fit, odp_law_refusals_fit, .func (PySem.W.fnOf "_law_refusals_fit" "_law_refusals_fit" (defArgs s__law_refusals_fit) (defBody s__law_refusals_fit) (defScope s__law_refusals_fit) .none kVp_law_refusals_fit dcp_law_refusals_fit pmp_law_refusals_fit anp_law_refusals_fit cdp_law_refusals_fit ctp_law_refusals_fit), slp_law_refusals_fit⟩)
    (cp_law_refusals_fit : PySem.W.codeIn K cdp_law_refusals_fit "_law_refusals_fit" = true)
    (kp_law_refusals_fit : PySem.W.keepIn K (.ref fp_law_refusals_fit) = true)
    (alaw : PySem.W.nsIn K mainGlobals "law" = some (some (.ref flaw)))
    (llaw : K.lookup flaw = some ⟨oclaw, odlaw, .func (PySem.W.fnOf "law" "law" (defArgs s_law) (defBody s_law) (defScope s_law) .none kVlaw dclaw pmlaw anlaw cdlaw ctlaw), sllaw⟩)
    (claw : PySem.W.codeIn K cdlaw "law" = true)
    (klaw : PySem.W.keepIn K (.ref flaw) = true)
    (zall : PySem.W.nsIn K mainGlobals "all" = some none)
    (zbool : PySem.W.nsIn K mainGlobals "bool" = some none)
    (zenumerate : PySem.W.nsIn K mainGlobals "enumerate" = some none)
    (zint : PySem.W.nsIn K mainGlobals "int" = some none)
    (zisinstance : PySem.W.nsIn K mainGlobals "isinstance" = some none)
    (zlen : PySem.W.nsIn K mainGlobals "len" = some none)
    (zlist : PySem.W.nsIn K mainGlobals "list" = some none)
    (zmax : PySem.W.nsIn K mainGlobals "max" = some none)
    (zmin : PySem.W.nsIn K mainGlobals "min" = some none)
    (zrange : PySem.W.nsIn K mainGlobals "range" = some none)
    (zsorted : PySem.W.nsIn K mainGlobals "sorted" = some none)
    (zstr : PySem.W.nsIn K mainGlobals "str" = some none)
    (zsum : PySem.W.nsIn K mainGlobals "sum" = some none)
    (zsuper : PySem.W.nsIn K mainGlobals "super" = some none)
    (ztuple : PySem.W.nsIn K mainGlobals "tuple" = some none)
    (imgcd : PySem.W.nsIn K mainGlobals "gcd" = some (some (.builtin "math.gcd")))
    (gARungsError : PySem.W.nsIn K mainGlobals "RungsError" = some (some (.ref ARungsError)))
    (gxBadNumber : PySem.W.nsIn K mainGlobals "BadNumber" = some (some (.ref CBadNumber)))
    (xlBadNumber : K.lookup CBadNumber = some (excClassObj nmBadNumber qBadNumber CBadNumber NBadNumber bsBadNumber [.ref ARungsError, .type "ValueError", .type "Exception", .type "BaseException", .type "object"] true snBadNumber subBadNumber abBadNumber colBadNumber ddBadNumber m0BadNumber m1BadNumber m2BadNumber m3BadNumber m5BadNumber "ValueError.__new__"))
    (saBadNumber : PySem.W.findIn K (.ref CBadNumber) "__setattr__" = some (some (.builtin "object.__setattr__")))
    (gaBadNumber : PySem.W.findIn K (.ref CBadNumber) "__getattribute__" = some (some (.builtin "BaseException.__getattribute__")))
    (ggBadNumber : PySem.W.findIn K (.ref CBadNumber) "__getattr__" = some none)
    (ebBadNumber : PySem.W.subIn K (.ref CBadNumber) (.type "BaseException") = some true)
    (tyBadNumber : PySem.W.typeIn K (.ref CBadNumber) = some (.type "type"))
    (kcBadNumber : PySem.W.keepIn K (.ref CBadNumber) = true)
    (hdBadNumber : PySem.W.hasDictIn K CBadNumber = true)
    (icBadNumber : PySem.W.isClsIn K CBadNumber = true)
    (inBadNumber : PySem.W.findIn K (.ref CBadNumber) "__init__" = some (some (.ref iBadNumber)))
    (tiBadNumber : PySem.W.typeIn K (.ref iBadNumber) = some (.type "function"))
    (liBadNumber : K.lookup iBadNumber = some ⟨oiBadNumber, diBadNumber, .func (PySem.W.fnX "__init__" "BadNumber.__init__" (defArgs s_BadNumber_init) (defBody s_BadNumber_init) (defScope s_BadNumber_init) [("__class__", ccBadNumber)] .none kViBadNumber dciBadNumber pmiBadNumber aniBadNumber (.ref cdaBadNumber) ctiBadNumber), sliBadNumber⟩)
    (ciBadNumber : PySem.W.codeIn K (.ref cdaBadNumber) "BadNumber.__init__" = true)
    (ldBadNumber : K.lookup cdaBadNumber = some ⟨cclBadNumber, cddBadNumber, .fields vsBadNumber, ccsBadNumber⟩)
    (vfBadNumber : vsBadNumber[2]? = some (.str fileBadNumber tfBadNumber))
    (hfBadNumber : ((P.main.file : Str) == fileBadNumber) = true)
    (lcBadNumber : K.lookup ccBadNumber = some ⟨clBadNumber, cldBadNumber, .cell (some (.ref CBadNumber)), cslBadNumber⟩)
    (suBadNumber : PySem.W.ks_superIn K CBadNumber CBadNumber "__init__" = some (some (.builtin "ValueError.__init__")))
    (veBadNumber : PySem.W.subIn K (.ref CBadNumber) (.type "ValueError") = some true)
    (mrBadNumber : PySem.W.mroIn K CBadNumber (.ref CBadNumber) = some true)
    (nwordBadNumber : PySem.W.findIn K (.ref CBadNumber) "word" = some none)
    (gxTooMany : PySem.W.nsIn K mainGlobals "TooMany" = some (some (.ref CTooMany)))
    (xlTooMany : K.lookup CTooMany = some (excClassObj nmTooMany qTooMany CTooMany NTooMany bsTooMany [.ref ARungsError, .type "ValueError", .type "Exception", .type "BaseException", .type "object"] true snTooMany subTooMany abTooMany colTooMany ddTooMany m0TooMany m1TooMany m2TooMany m3TooMany m5TooMany "ValueError.__new__"))
    (saTooMany : PySem.W.findIn K (.ref CTooMany) "__setattr__" = some (some (.builtin "object.__setattr__")))
    (gaTooMany : PySem.W.findIn K (.ref CTooMany) "__getattribute__" = some (some (.builtin "BaseException.__getattribute__")))
    (ggTooMany : PySem.W.findIn K (.ref CTooMany) "__getattr__" = some none)
    (ebTooMany : PySem.W.subIn K (.ref CTooMany) (.type "BaseException") = some true)
    (tyTooMany : PySem.W.typeIn K (.ref CTooMany) = some (.type "type"))
    (kcTooMany : PySem.W.keepIn K (.ref CTooMany) = true)
    (hdTooMany : PySem.W.hasDictIn K CTooMany = true)
    (icTooMany : PySem.W.isClsIn K CTooMany = true)
    (inTooMany : PySem.W.findIn K (.ref CTooMany) "__init__" = some (some (.ref iTooMany)))
    (tiTooMany : PySem.W.typeIn K (.ref iTooMany) = some (.type "function"))
    (liTooMany : K.lookup iTooMany = some ⟨oiTooMany, diTooMany, .func (PySem.W.fnX "__init__" "TooMany.__init__" (defArgs s_TooMany_init) (defBody s_TooMany_init) (defScope s_TooMany_init) [("__class__", ccTooMany)] .none kViTooMany dciTooMany pmiTooMany aniTooMany (.ref cdaTooMany) ctiTooMany), sliTooMany⟩)
    (ciTooMany : PySem.W.codeIn K (.ref cdaTooMany) "TooMany.__init__" = true)
    (ldTooMany : K.lookup cdaTooMany = some ⟨cclTooMany, cddTooMany, .fields vsTooMany, ccsTooMany⟩)
    (vfTooMany : vsTooMany[2]? = some (.str fileTooMany tfTooMany))
    (hfTooMany : ((P.main.file : Str) == fileTooMany) = true)
    (lcTooMany : K.lookup ccTooMany = some ⟨clTooMany, cldTooMany, .cell (some (.ref CTooMany)), cslTooMany⟩)
    (suTooMany : PySem.W.ks_superIn K CTooMany CTooMany "__init__" = some (some (.builtin "ValueError.__init__")))
    (veTooMany : PySem.W.subIn K (.ref CTooMany) (.type "ValueError") = some true)
    (mrTooMany : PySem.W.mroIn K CTooMany (.ref CTooMany) = some true)
    (nlimitTooMany : PySem.W.findIn K (.ref CTooMany) "limit" = some none)
    (opq : PySem.W.nsIn K cStatics "thirdparty.any" = some none)
    (sBadNumberBadNumber : PySem.W.subIn K (.ref CBadNumber) (.ref CBadNumber) = some true)
    (sBadNumberTooMany : PySem.W.subIn K (.ref CBadNumber) (.ref CTooMany) = some false)
    (sTooManyBadNumber : PySem.W.subIn K (.ref CTooMany) (.ref CBadNumber) = some false)
    (sTooManyTooMany : PySem.W.subIn K (.ref CTooMany) (.ref CTooMany) = some true)
    (top : (P.main.scope.names.lookup ("super" : Str)).isSome = false) :
    ∃ fd : FuncData, (∀ (s : Shared) (v : Value), BindsTo s fd ⟨[v], []⟩ [("script", v)]) ∧ ∀ base : Heap, K.In base → base.Ns mainGlobals mg → FnOk P w K mg base (CX P w) 7 fa fd ["script"] (spLaw K) := by
  have e := hfa.symm.trans (PySem.W.mg_of X G alaw)
  cases e
  have Fpis_whole := fun_mk (st := s_is_whole) lpis_whole cpis_whole kpis_whole
  have bpis_whole := Fpis_whole.binds (ps := ["value", "least", "most"]) fun _ _ _ _ _ _ us hl => match us, hl with | [_, _, _], _ => rfl
  have Fpis_listed := fun_mk (st := s_is_listed) lpis_listed cpis_listed kpis_listed
  have bpis_listed := Fpis_listed.binds (ps := ["value"]) fun _ _ _ _ _ _ us hl => match us, hl with | [_], _ => rfl
  have Fpis_time := fun_mk (st := s_is_time) lpis_time cpis_time kpis_time
  have bpis_time := Fpis_time.binds (ps := ["period", "offset", "most"]) fun _ _ _ _ _ _ us hl => match us, hl with | [_, _, _], _ => rfl
  have Fpcheck_jobs := fun_mk (st := s_check_jobs) lpcheck_jobs cpcheck_jobs kpcheck_jobs
  have bpcheck_jobs := Fpcheck_jobs.binds (ps := ["jobs"]) fun _ _ _ _ _ _ us hl => match us, hl with | [_], _ => rfl
  have Fp_rounded_up := fun_mk (st := s__rounded_up) lp_rounded_up cp_rounded_up kp_rounded_up
  have bp_rounded_up := Fp_rounded_up.binds (ps := ["number", "other"]) fun _ _ _ _ _ _ us hl => match us, hl with | [_, _], _ => rfl
  have Fp_row := fun_mk (st := s__row) lp_row cp_row kp_row
  have bp_row := Fp_row.binds (ps := ["jobs", "place"]) fun _ _ _ _ _ _ us hl => match us, hl with | [_, _], _ => rfl
  have Fpnever_misses := fun_mk (st := s_never_misses) lpnever_misses cpnever_misses kpnever_misses
  have bpnever_misses := Fpnever_misses.binds (ps := ["jobs"]) fun _ _ _ _ _ _ us hl => match us, hl with | [_], _ => rfl
  have Fpby_periods := fun_mk (st := s_by_periods) lpby_periods cpby_periods kpby_periods
  have bpby_periods := Fpby_periods.binds (ps := ["jobs"]) fun _ _ _ _ _ _ us hl => match us, hl with | [_], _ => rfl
  have Fpload := fun_mk (st := s_load) lpload cpload kpload
  have bpload := Fpload.binds (ps := ["jobs"]) fun _ _ _ _ _ _ us hl => match us, hl with | [_], _ => rfl
  have Fp_law_numbers := fun_mk (st := s__law_numbers) lp_law_numbers cp_law_numbers kp_law_numbers
  have bp_law_numbers := Fp_law_numbers.binds (ps := ["script"]) fun _ _ _ _ _ _ us hl => match us, hl with | [_], _ => rfl
  have Fp_law_draw := fun_mk (st := s__law_draw) lp_law_draw cp_law_draw kp_law_draw
  have bp_law_draw := Fp_law_draw.binds (ps := ["numbers", "many"]) fun _ _ _ _ _ _ us hl => match us, hl with | [_, _], _ => rfl
  have Fp_law_int := fun_mk (st := s__law_int) lp_law_int cp_law_int kp_law_int
  have bp_law_int := Fp_law_int.binds (ps := ["value"]) fun _ _ _ _ _ _ us hl => match us, hl with | [_], _ => rfl
  have Fp_law_any_jobs := fun_mk (st := s__law_any_jobs) lp_law_any_jobs cp_law_any_jobs kp_law_any_jobs
  have bp_law_any_jobs := Fp_law_any_jobs.binds (ps := ["numbers"]) fun _ _ _ _ _ _ us hl => match us, hl with | [_], _ => rfl
  have Fp_law_dividing := fun_mk (st := s__law_dividing) lp_law_dividing cp_law_dividing kp_law_dividing
  have bp_law_dividing := Fp_law_dividing.binds (ps := ["numbers"]) fun _ _ _ _ _ _ us hl => match us, hl with | [_], _ => rfl
  have Fp_law_lowest := fun_mk (st := s__law_lowest) lp_law_lowest cp_law_lowest kp_law_lowest
  have bp_law_lowest := Fp_law_lowest.binds (ps := ["n", "d"]) fun _ _ _ _ _ _ us hl => match us, hl with | [_, _], _ => rfl
  have Fp_law_load := fun_mk (st := s__law_load) lp_law_load cp_law_load kp_law_load
  have bp_law_load := Fp_law_load.binds (ps := ["jobs"]) fun _ _ _ _ _ _ us hl => match us, hl with | [_], _ => rfl
  have Fp_law_well := fun_mk (st := s__law_well) lp_law_well cp_law_well kp_law_well
  have bp_law_well := Fp_law_well.binds (ps := ["jobs"]) fun _ _ _ _ _ _ us hl => match us, hl with | [_], _ => rfl
  have Fp_law_orders := fun_mk (st := s__law_orders) lp_law_orders cp_law_orders kp_law_orders
  have bp_law_orders := Fp_law_orders.binds (ps := ["many"]) fun _ _ _ _ _ _ us hl => match us, hl with | [_], _ => rfl
  have Fp_law_by_periods := fun_mk (st := s__law_by_periods) lp_law_by_periods cp_law_by_periods kp_law_by_periods
  have bp_law_by_periods := Fp_law_by_periods.binds (ps := ["jobs"]) fun _ _ _ _ _ _ us hl => match us, hl with | [_], _ => rfl
  have Fp_law_refused := fun_mk (st := s__law_refused) lp_law_refused cp_law_refused kp_law_refused
  have bp_law_refused := Fp_law_refused.binds (ps := ["word", "jobs"]) fun _ _ _ _ _ _ us hl => match us, hl with | [_, _], _ => rfl
  have Fp_law_refusals_fit := fun_mk (st := s__law_refusals_fit) lp_law_refusals_fit cp_law_refusals_fit kp_law_refusals_fit
  have bp_law_refusals_fit := Fp_law_refusals_fit.binds (ps := ["numbers", "jobs"]) fun _ _ _ _ _ _ us hl => match us, hl with | [_, _], _ => rfl
  have Flaw := fun_mk (st := s_law) llaw claw klaw
  have B : Bl mg := { all := PySem.W.mg_none_of X G zall, bool := PySem.W.mg_none_of X G zbool, enumerate := PySem.W.mg_none_of X G zenumerate, int := PySem.W.mg_none_of X G zint, isinstance := PySem.W.mg_none_of X G zisinstance, len := PySem.W.mg_none_of X G zlen, list := PySem.W.mg_none_of X G zlist, max := PySem.W.mg_none_of X G zmax, min := PySem.W.mg_none_of X G zmin, range := PySem.W.mg_none_of X G zrange, sorted := PySem.W.mg_none_of X G zsorted, str := PySem.W.mg_none_of X G zstr, sum := PySem.W.mg_none_of X G zsum, tuple := PySem.W.mg_none_of X G ztuple }
  have OBadNumber : OexC K CBadNumber := { cls := ⟨_, _, _, _, _, _, _, _, _, _, _, _, _, _, _, xlBadNumber, rfl⟩, sa := saBadNumber, exC := ebBadNumber, tyC := tyBadNumber, kC := kcBadNumber }
  have SBadNumber : Sup P K mg CBadNumber iBadNumber "BadNumber.__init__" s_BadNumber_init (PySem.W.fnX "__init__" "BadNumber.__init__" (defArgs s_BadNumber_init) (defBody s_BadNumber_init) (defScope s_BadNumber_init) [("__class__", ccBadNumber)] .none kViBadNumber dciBadNumber pmiBadNumber aniBadNumber (.ref cdaBadNumber) ctiBadNumber) :=
    { O := OBadNumber, iC := inBadNumber, tI := tiBadNumber, ex := ⟨_, _, _, _, _, _, _, _, _, _, _, _, _, _, _, _, _, _, _, rfl, liBadNumber, ciBadNumber, ldBadNumber, vfBadNumber, hfBadNumber, lcBadNumber⟩, sup := suBadNumber, opq := opq, sVE := veBadNumber, mro := mrBadNumber, sG := PySem.W.mg_none_of X G zsuper, top := top }
  have bxBadNumber : Binds K (PySem.W.fnX "__init__" "BadNumber.__init__" (defArgs s_BadNumber_init) (defBody s_BadNumber_init) (defScope s_BadNumber_init) [("__class__", ccBadNumber)] .none kViBadNumber dciBadNumber pmiBadNumber aniBadNumber (.ref cdaBadNumber) ctiBadNumber) ["self", "word"] [] := fun s us _ hl => by
    rw [List.append_nil] at hl ⊢
    exact match us, hl with | [_, _], _ => .of_eq rfl
  have nfBadNumber : ∀ y ∈ (["word"] : List Str), PySem.W.findIn K (.ref CBadNumber) y = some none := by
    intro y hy
    simp only [List.mem_cons, List.not_mem_nil, or_false] at hy
    subst hy
    exact nwordBadNumber
  let EBadNumber : Ke P K mg "BadNumber" "BadNumber.__init__" s_BadNumber_init ["self", "word"] ["word"] := { C := CBadNumber, f := iBadNumber, fd := _, T := SBadNumber, b := bxBadNumber, nf := nfBadNumber, g := PySem.W.mg_of X G gxBadNumber, X := ⟨gaBadNumber, ggBadNumber, ebBadNumber, hdBadNumber⟩ }
  have OTooMany : OexC K CTooMany := { cls := ⟨_, _, _, _, _, _, _, _, _, _, _, _, _, _, _, xlTooMany, rfl⟩, sa := saTooMany, exC := ebTooMany, tyC := tyTooMany, kC := kcTooMany }
  have STooMany : Sup P K mg CTooMany iTooMany "TooMany.__init__" s_TooMany_init (PySem.W.fnX "__init__" "TooMany.__init__" (defArgs s_TooMany_init) (defBody s_TooMany_init) (defScope s_TooMany_init) [("__class__", ccTooMany)] .none kViTooMany dciTooMany pmiTooMany aniTooMany (.ref cdaTooMany) ctiTooMany) :=
    { O := OTooMany, iC := inTooMany, tI := tiTooMany, ex := ⟨_, _, _, _, _, _, _, _, _, _, _, _, _, _, _, _, _, _, _, rfl, liTooMany, ciTooMany, ldTooMany, vfTooMany, hfTooMany, lcTooMany⟩, sup := suTooMany, opq := opq, sVE := veTooMany, mro := mrTooMany, sG := PySem.W.mg_none_of X G zsuper, top := top }
  have bxTooMany : Binds K (PySem.W.fnX "__init__" "TooMany.__init__" (defArgs s_TooMany_init) (defBody s_TooMany_init) (defScope s_TooMany_init) [("__class__", ccTooMany)] .none kViTooMany dciTooMany pmiTooMany aniTooMany (.ref cdaTooMany) ctiTooMany) ["self", "limit"] [] := fun s us _ hl => by
    rw [List.append_nil] at hl ⊢
    exact match us, hl with | [_, _], _ => .of_eq rfl
  have nfTooMany : ∀ y ∈ (["limit"] : List Str), PySem.W.findIn K (.ref CTooMany) y = some none := by
    intro y hy
    simp only [List.mem_cons, List.not_mem_nil, or_false] at hy
    subst hy
    exact nlimitTooMany
  let ETooMany : Ke P K mg "TooMany" "TooMany.__init__" s_TooMany_init ["self", "limit"] ["limit"] := { C := CTooMany, f := iTooMany, fd := _, T := STooMany, b := bxTooMany, nf := nfTooMany, g := PySem.W.mg_of X G gxTooMany, X := ⟨gaTooMany, ggTooMany, ebTooMany, hdTooMany⟩ }
  let PR : Pr P K mg := { B := B, BadNumber := EBadNumber, TooMany := ETooMany, x_BadNumber_BadNumber := exm_of ebBadNumber icBadNumber tyBadNumber sBadNumberBadNumber, x_BadNumber_TooMany := exm_of ebTooMany icTooMany tyTooMany sBadNumberTooMany, x_TooMany_BadNumber := exm_of ebBadNumber icBadNumber tyBadNumber sTooManyBadNumber, x_TooMany_TooMany := exm_of ebTooMany icTooMany tyTooMany sTooManyTooMany, g_gcd := PySem.W.mg_of X G imgcd, is_whole := { f := fpis_whole, fd := _, F := Fpis_whole, b := bpis_whole, g := PySem.W.mg_of X G apis_whole }, is_listed := { f := fpis_listed, fd := _, F := Fpis_listed, b := bpis_listed, g := PySem.W.mg_of X G apis_listed }, is_time := { f := fpis_time, fd := _, F := Fpis_time, b := bpis_time, g := PySem.W.mg_of X G apis_time }, check_jobs := { f := fpcheck_jobs, fd := _, F := Fpcheck_jobs, b := bpcheck_jobs, g := PySem.W.mg_of X G apcheck_jobs }, _rounded_up := { f := fp_rounded_up, fd := _, F := Fp_rounded_up, b := bp_rounded_up, g := PySem.W.mg_of X G ap_rounded_up }, _row := { f := fp_row, fd := _, F := Fp_row, b := bp_row, g := PySem.W.mg_of X G ap_row }, never_misses := { f := fpnever_misses, fd := _, F := Fpnever_misses, b := bpnever_misses, g := PySem.W.mg_of X G apnever_misses }, by_periods := { f := fpby_periods, fd := _, F := Fpby_periods, b := bpby_periods, g := PySem.W.mg_of X G apby_periods }, load := { f := fpload, fd := _, F := Fpload, b := bpload, g := PySem.W.mg_of X G apload }, _law_numbers := { f := fp_law_numbers, fd := _, F := Fp_law_numbers, b := bp_law_numbers, g := PySem.W.mg_of X G ap_law_numbers }, _law_draw := { f := fp_law_draw, fd := _, F := Fp_law_draw, b := bp_law_draw, g := PySem.W.mg_of X G ap_law_draw }, _law_int := { f := fp_law_int, fd := _, F := Fp_law_int, b := bp_law_int, g := PySem.W.mg_of X G ap_law_int }, _law_any_jobs := { f := fp_law_any_jobs, fd := _, F := Fp_law_any_jobs, b := bp_law_any_jobs, g := PySem.W.mg_of X G ap_law_any_jobs }, _law_dividing := { f := fp_law_dividing, fd := _, F := Fp_law_dividing, b := bp_law_dividing, g := PySem.W.mg_of X G ap_law_dividing }, _law_lowest := { f := fp_law_lowest, fd := _, F := Fp_law_lowest, b := bp_law_lowest, g := PySem.W.mg_of X G ap_law_lowest }, _law_load := { f := fp_law_load, fd := _, F := Fp_law_load, b := bp_law_load, g := PySem.W.mg_of X G ap_law_load }, _law_well := { f := fp_law_well, fd := _, F := Fp_law_well, b := bp_law_well, g := PySem.W.mg_of X G ap_law_well }, _law_orders := { f := fp_law_orders, fd := _, F := Fp_law_orders, b := bp_law_orders, g := PySem.W.mg_of X G ap_law_orders }, _law_by_periods := { f := fp_law_by_periods, fd := _, F := Fp_law_by_periods, b := bp_law_by_periods, g := PySem.W.mg_of X G ap_law_by_periods }, _law_refused := { f := fp_law_refused, fd := _, F := Fp_law_refused, b := bp_law_refused, g := PySem.W.mg_of X G ap_law_refused }, _law_refusals_fit := { f := fp_law_refusals_fit, fd := _, F := Fp_law_refusals_fit, b := bp_law_refusals_fit, g := PySem.W.mg_of X G ap_law_refusals_fit } }
  exact ⟨_, fun s v => .of_eq rfl, fun base _ _ => ok_law PR Flaw⟩
end K7

set_option Elab.async false
set_option linter.all false
open PySem PySem.W PyProof.Rows
set_option maxRecDepth 100000
set_option maxHeartbeats 0 in
theorem PySem.Challenge.cw_guardrungs_k78_load_and_dividing_periods_holds : PySem.Challenge.rw_guardrungs_k78_load_and_dividing_periods.Holds := by
  w_on; o_law; k_head; (case hw => w_witness2)
  k_fill
  refine L2.walk_of (l := PySem.Challenge.rw_guardrungs_k78_load_and_dividing_periods) (n := 63) (k := 7) (x := "script") (CX := fun w => L2.CX PySem.Challenge.rw_guardrungs_k78_load_and_dividing_periods.prog w) (sp := fun w => K7.spLaw _) rfl (by decide) rfl ⟨rfl, by decide, by decide⟩ (fun w h Y => PySem.W.kIn_of Y) ?F (fun _ _ a ns hl _ hS => ⟨a, ns, rfl, hS, hl, fun _ => rfl⟩) (fun _ _ _ _ _ h => by obtain ⟨_, _, _, _, _, _, _, _, _, _, _, _, z⟩ := h; exact z)
  case F =>
    intro w mg fa h KX G hmg
    refine' K7.all_mk KX G hmg ?apis_whole ?lpis_whole ?cpis_whole ?kpis_whole ?apis_listed ?lpis_listed ?cpis_listed ?kpis_listed ?apis_time ?lpis_time ?cpis_time ?kpis_time ?apcheck_jobs ?lpcheck_jobs ?cpcheck_jobs ?kpcheck_jobs ?ap_rounded_up ?lp_rounded_up ?cp_rounded_up ?kp_rounded_up ?ap_row ?lp_row ?cp_row ?kp_row ?apnever_misses ?lpnever_misses ?cpnever_misses ?kpnever_misses ?apby_periods ?lpby_periods ?cpby_periods ?kpby_periods ?apload ?lpload ?cpload ?kpload ?ap_law_numbers ?lp_law_numbers ?cp_law_numbers ?kp_law_numbers ?ap_law_draw ?lp_law_draw ?cp_law_draw ?kp_law_draw ?ap_law_int ?lp_law_int ?cp_law_int ?kp_law_int ?ap_law_any_jobs ?lp_law_any_jobs ?cp_law_any_jobs ?kp_law_any_jobs ?ap_law_dividing ?lp_law_dividing ?cp_law_dividing ?kp_law_dividing ?ap_law_lowest ?lp_law_lowest ?cp_law_lowest ?kp_law_lowest ?ap_law_load ?lp_law_load ?cp_law_load ?kp_law_load ?ap_law_well ?lp_law_well ?cp_law_well ?kp_law_well ?ap_law_orders ?lp_law_orders ?cp_law_orders ?kp_law_orders ?ap_law_by_periods ?lp_law_by_periods ?cp_law_by_periods ?kp_law_by_periods ?ap_law_refused ?lp_law_refused ?cp_law_refused ?kp_law_refused ?ap_law_refusals_fit ?lp_law_refusals_fit ?cp_law_refusals_fit ?kp_law_refusals_fit ?alaw ?llaw ?claw ?klaw ?zall ?zbool ?zenumerate ?zint ?zisinstance ?zlen ?zlist ?zmax ?zmin ?zrange ?zsorted ?zstr ?zsum ?zsuper ?ztuple ?imgcd ?gARungsError ?gxBadNumber ?xlBadNumber ?saBadNumber ?gaBadNumber ?ggBadNumber ?ebBadNumber ?tyBadNumber ?kcBadNumber ?hdBadNumber ?icBadNumber ?inBadNumber ?tiBadNumber ?liBadNumber ?ciBadNumber ?ldBadNumber ?vfBadNumber ?hfBadNumber ?lcBadNumber ?suBadNumber ?veBadNumber ?mrBadNumber ?nwordBadNumber ?gxTooMany ?xlTooMany ?saTooMany ?gaTooMany ?ggTooMany ?ebTooMany ?tyTooMany ?kcTooMany ?hdTooMany ?icTooMany ?inTooMany ?tiTooMany ?liTooMany ?ciTooMany ?ldTooMany ?vfTooMany ?hfTooMany ?lcTooMany ?suTooMany ?veTooMany ?mrTooMany ?nlimitTooMany ?opq ?sBadNumberBadNumber ?sBadNumberTooMany ?sTooManyBadNumber ?sTooManyTooMany ?top
    (case apis_whole => k_is)
    (case lpis_whole => k_is)
    (case cpis_whole => k_is)
    (case kpis_whole => k_is)
    (case apis_listed => k_is)
    (case lpis_listed => k_is)
    (case cpis_listed => k_is)
    (case kpis_listed => k_is)
    (case apis_time => k_is)
    (case lpis_time => k_is)
    (case cpis_time => k_is)
    (case kpis_time => k_is)
    (case apcheck_jobs => k_is)
    (case lpcheck_jobs => k_is)
    (case cpcheck_jobs => k_is)
    (case kpcheck_jobs => k_is)
    (case ap_rounded_up => k_is)
    (case lp_rounded_up => k_is)
    (case cp_rounded_up => k_is)
    (case kp_rounded_up => k_is)
    (case ap_row => k_is)
    (case lp_row => k_is)
    (case cp_row => k_is)
    (case kp_row => k_is)
    (case apnever_misses => k_is)
    (case lpnever_misses => k_is)
    (case cpnever_misses => k_is)
    (case kpnever_misses => k_is)
    (case apby_periods => k_is)
    (case lpby_periods => k_is)
    (case cpby_periods => k_is)
    (case kpby_periods => k_is)
    (case apload => k_is)
    (case lpload => k_is)
    (case cpload => k_is)
    (case kpload => k_is)
    (case ap_law_numbers => k_is)
    (case lp_law_numbers => k_is)
    (case cp_law_numbers => k_is)
    (case kp_law_numbers => k_is)
    (case ap_law_draw => k_is)
    (case lp_law_draw => k_is)
    (case cp_law_draw => k_is)
    (case kp_law_draw => k_is)
    (case ap_law_int => k_is)
    (case lp_law_int => k_is)
    (case cp_law_int => k_is)
    (case kp_law_int => k_is)
    (case ap_law_any_jobs => k_is)
    (case lp_law_any_jobs => k_is)
    (case cp_law_any_jobs => k_is)
    (case kp_law_any_jobs => k_is)
    (case ap_law_dividing => k_is)
    (case lp_law_dividing => k_is)
    (case cp_law_dividing => k_is)
    (case kp_law_dividing => k_is)
    (case ap_law_lowest => k_is)
    (case lp_law_lowest => k_is)
    (case cp_law_lowest => k_is)
    (case kp_law_lowest => k_is)
    (case ap_law_load => k_is)
    (case lp_law_load => k_is)
    (case cp_law_load => k_is)
    (case kp_law_load => k_is)
    (case ap_law_well => k_is)
    (case lp_law_well => k_is)
    (case cp_law_well => k_is)
    (case kp_law_well => k_is)
    (case ap_law_orders => k_is)
    (case lp_law_orders => k_is)
    (case cp_law_orders => k_is)
    (case kp_law_orders => k_is)
    (case ap_law_by_periods => k_is)
    (case lp_law_by_periods => k_is)
    (case cp_law_by_periods => k_is)
    (case kp_law_by_periods => k_is)
    (case ap_law_refused => k_is)
    (case lp_law_refused => k_is)
    (case cp_law_refused => k_is)
    (case kp_law_refused => k_is)
    (case ap_law_refusals_fit => k_is)
    (case lp_law_refusals_fit => k_is)
    (case cp_law_refusals_fit => k_is)
    (case kp_law_refusals_fit => k_is)
    (case alaw => k_is)
    (case llaw => k_is)
    (case claw => k_is)
    (case klaw => k_is)
    (case zall => k_is)
    (case zbool => k_is)
    (case zenumerate => k_is)
    (case zint => k_is)
    (case zisinstance => k_is)
    (case zlen => k_is)
    (case zlist => k_is)
    (case zmax => k_is)
    (case zmin => k_is)
    (case zrange => k_is)
    (case zsorted => k_is)
    (case zstr => k_is)
    (case zsum => k_is)
    (case zsuper => k_is)
    (case ztuple => k_is)
    (case imgcd => k_is)
    (case gARungsError => k_is)
    (case gxBadNumber => k_is)
    (case xlBadNumber => k_is)
    (case saBadNumber => k_is)
    (case gaBadNumber => k_is)
    (case ggBadNumber => k_is)
    (case ebBadNumber => k_is)
    (case tyBadNumber => k_is)
    (case kcBadNumber => k_is)
    (case hdBadNumber => k_is)
    (case icBadNumber => k_is)
    (case inBadNumber => k_is)
    (case tiBadNumber => k_is)
    (case liBadNumber => k_is)
    (case ciBadNumber => k_is)
    (case ldBadNumber => k_is)
    (case vfBadNumber => first | rfl | k_is)
    (case hfBadNumber => first | rfl | decide | k_is)
    (case lcBadNumber => k_is)
    (case suBadNumber => first | rfl | decide +kernel)
    (case veBadNumber => k_is)
    (case mrBadNumber => k_is)
    (case nwordBadNumber => k_is)
    (case gxTooMany => k_is)
    (case xlTooMany => k_is)
    (case saTooMany => k_is)
    (case gaTooMany => k_is)
    (case ggTooMany => k_is)
    (case ebTooMany => k_is)
    (case tyTooMany => k_is)
    (case kcTooMany => k_is)
    (case hdTooMany => k_is)
    (case icTooMany => k_is)
    (case inTooMany => k_is)
    (case tiTooMany => k_is)
    (case liTooMany => k_is)
    (case ciTooMany => k_is)
    (case ldTooMany => k_is)
    (case vfTooMany => first | rfl | k_is)
    (case hfTooMany => first | rfl | decide | k_is)
    (case lcTooMany => k_is)
    (case suTooMany => first | rfl | decide +kernel)
    (case veTooMany => k_is)
    (case mrTooMany => k_is)
    (case nlimitTooMany => k_is)
    (case opq => k_is)
    (case sBadNumberBadNumber => k_is)
    (case sBadNumberTooMany => k_is)
    (case sTooManyBadNumber => k_is)
    (case sTooManyTooMany => k_is)
    (case top => first | rfl | decide)

