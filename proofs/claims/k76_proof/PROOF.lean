import PyProof.Rows.All
import Wide.All
import OpenK.AllK
import Wide.FinOn
import KE.KExcSuper
import HandS.Base
import HandS.Call
import HandS.List
import HandS.Ends
import HandS.Exc
import HandS.ExcOwn
import HandS.ExcInit
import HandS.Words
import HandS.Nested
import HandS.TryMany
import KE.GoesMore
import KE.GoesEnum
import HandS.Iter
import HandS.Sort
import HandS.SortInts
import HandS.TupMul
import HandS.TupAny
import PyProof.ListMulRoad
import HandS.CallSlots
import KE.KDictZip
import KE.KDictItemsList
import HandS.ListItems
import HandS.MapObj
import HandS.Gcd
import KE.KMathGC
import HandS.ForMost
import HandS.ForExc
import HandS.IsInst
import HandS.Conv
import HandS.Zip
import HandS.DictComp
import HandS.SortRule
import HandS.ExcField
import HandS.FStr
import HandS.Deep
import HandS.TupLe
import HandS.TryOnly
import PySem.Challenge.RW_guardrungs_k76_cut_tasks_and_first_miss
set_option Elab.async false
set_option linter.all false
set_option maxRecDepth 100000
set_option maxHeartbeats 4000000
namespace GX
open PySem PySem.Spec PyProof.Rows L2 NdefX
/-- what the written part says of an own exception class whose __init__ goes over super -/
structure Sup (P : Program) (K : PySem.W.Frag) (mg : Str → Option Value) (C fI : Addr) (qual : Str) (st : Stmt) (fd : FuncData) : Prop where
  O : OexC K C
  iC : PySem.W.findIn K (.ref C) "__init__" = some (some (.ref fI))
  tI : PySem.W.typeIn K (.ref fI) = some (.type "function")
  ex : ∃ (oc : Value) (od : Option Addr) (kV doc pm ct : Value) (an : Option Addr) (osl : Array (Option Value)) (cc cda : Addr) (ccl cl : Value) (cdd cld : Option Addr) (vs : Array Value) (ccs csl : Array (Option Value)) (file : Str) (tf : Tok),
    fd = PySem.W.fnX "__init__" qual (defArgs st) (defBody st) (defScope st) [("__class__", cc)] .none kV doc pm an (.ref cda) ct ∧
    K.lookup fI = some ⟨oc, od, .func fd, osl⟩ ∧ PySem.W.codeIn K (.ref cda) qual = true ∧ K.lookup cda = some ⟨ccl, cdd, .fields vs, ccs⟩ ∧ vs[2]? = some (.str file tf) ∧ ((P.main.file : Str) == file) = true ∧
    K.lookup cc = some ⟨cl, cld, .cell (some (.ref C)), csl⟩
  sup : PySem.W.ks_superIn K C C "__init__" = some (some (.builtin "ValueError.__init__"))
  opq : PySem.W.nsIn K cStatics "thirdparty.any" = some none
  sVE : PySem.W.subIn K (.ref C) (.type "ValueError") = some true
  mro : PySem.W.mroIn K C (.ref C) = some true
  sG : mg "super" = none
  top : (P.main.scope.names.lookup ("super" : Str)).isSome = false
section
variable {X : Cx} {pins : List (Addr × Obj)} {σ : L2.St} {H : Hp} {s : Shared} {C a u : Addr}
/-- the built-in __init__ bound to the exception, called -/
theorem sup_call {A : Around} {E : Value → Shared → Prop} {us : List Value} {Q : Value → Shared → Prop} (T : OexC X.K C) (I : Inv X pins σ H s) (e : H a = some (exo a C none))
    (hu : s.heap.get? u = some (PySem.W.kxs_mw "ValueError.__init__" a)) (hl : us.length ≤ sizeLine) (h : ∀ s', Inv X pins σ H s' → Q .none s') : wpAny (model X.prog X.w) A (call (.ref u) us) Q E s := by
  obtain ⟨nm, q, N, bs, bm, sn, sub, ab, col, dd, k0, k1, k2, k3, k5, hC, hbm⟩ := T.cls
  have hC' := I.kIn _ _ hC
  obtain ⟨t1, ho⟩ := exo_at I.hok e
  obtain ⟨hp, g, d, t, os⟩ := s
  refine wpAny_call (codeAny_of_tree ?_)
  show wpAny _ A.in1 (callAny (.ref u) ⟨us, []⟩) _ _ _
  simp only [callAny]
  refine wpAny_bind (wpAny_load hu ?_)
  simp only [PySem.W.kxs_mw, show (Value.type "method-wrapper" == Value.type "method" || Value.type "method-wrapper" == Value.type "builtin_function_or_method" || Value.type "method-wrapper" == Value.type "method-wrapper") = true by decide, if_true]
  refine PySem.W.KFB.if_so (by decide) ?_
  refine wpAny_bind (PySem.W.check_bound_init F.excBase_ValueError.toExcCallFacts hC' ho rfl ?_)
  refine wpAny_bind (wpAny_pure (wpAny_pure ?_))
  refine ⟨plainId_quiet F.excBase_ValueError.init.plain _, codeAny_builtin F.excBase_ValueError.initEntry ?_⟩
  refine PySem.W.exc_init_tree (cls := .ref C) (t0 := t1) (dv := none) (c2 := .none) (c3 := .none) (b4 := .bool false) ho hl fun h' k hx _ => ?_
  have J := I.write (t' := t) (x := a) (e := a) (o := exo a C none) (by rw [e]; exact True.intro) (.inl rfl) k ⟨_, hx⟩ (exo_ok hx)
  have eu : upd H a (exo a C none) = H := by
    funext b
    by_cases hb : b = a
    · rw [hb, upd_same, e]
    · rw [upd_ne hb]
  rw [eu] at J
  exact h _ J
/-- super().__init__(e, ..) as a statement of an exception's own __init__ -/
theorem sup_stmt {body : List Stmt} {e : Expr} {es : List Expr} {ta : TA} {p0 p1 p2 p3 p4 : Pos} {pl : Sem Bool} {nx : Hp → Prop} {fI cda cc : Addr} {fd : FuncData} {ar : Arg} {oc ccl cl : Value} {od cdd cld : Option Addr} {osl ccs csl : Array (Option Value)} {vs : Array Value} {file : Str} {tf : Tok}
    (O : OexC X.K C) (hfu : X.env.func = some fI) (lkf : X.K.lookup fI = some ⟨oc, od, .func fd, osl⟩) (hp : (fd.params.posonlyargs ++ fd.params.args).head? = some ar) (hco : X.env.code = .ref cda) (lkc : X.K.lookup cda = some ⟨ccl, cdd, .fields vs, ccs⟩)
    (hvs : vs[2]? = some (.str file tf)) (hfile : ((X.prog.main.file : Str) == file) = true) (hcel : X.env.cells.lookup ("__class__" : Str) = some cc) (lkcc : X.K.lookup cc = some ⟨cl, cld, .cell (some (.ref C)), csl⟩)
    (hks : X.env.kindOf "super" = some .globalImplicit) (hkc : X.env.kindOf "__class__" = some .free) (hk0 : X.env.kindOf ar.arg = some .local) (hN0 : X.N[0]? = some ar.arg)
    (sup : PySem.W.ks_superIn X.K C C "__init__" = some (some (.builtin "ValueError.__init__"))) (opq : PySem.W.nsIn X.K cStatics "thirdparty.any" = some none) (sVE : PySem.W.subIn X.K (.ref C) (.type "ValueError") = some true)
    (mro : PySem.W.mroIn X.K C (.ref C) = some true) (sG : X.mg "super" = none) (top : (X.prog.main.scope.names.lookup ("super" : Str)).isSome = false)
    (hpa : PA X (e :: es) ta) (I : Inv X pins σ H s) (hs0 : σ[0]? = some (some (.ref a))) (ea : H a = some (exo a C none)) (h : ta σ H fun vs H1 => H1 a = some (exo a C none) ∧ vs.length ≤ 1000 ∧ nx H1)
    (hi : interactive X.env = false) (hsw : swapsWith (.Call (.Attribute (.Call (.Name "super" p0) [] [] p1) "__init__" p2) (e :: es) [] p3) none p4.line X.env = pure false)
    (heq : eval (.Call (.Attribute (.Call (.Name "super" p0) [] [] p1) "__init__" p2) (e :: es) [] p3) X.env = (do
      let ov ← attributeBase (.Call (.Name "super" p0) [] [] p1) "__init__" X.env (eval (.Call (.Name "super" p0) [] [] p1) X.env)
      standAt p2.atName
      let (f, first) ← holding [ov] (getMethod ov "__init__" pl)
      callWith p3 f first (backTo p3 (starEach (e :: es) X.env)) []))
    (he : starEach (e :: es) X.env = (false, eval e X.env) :: starEach es X.env) (hpl : (backTo p3 (starEach es X.env)).any (·.1) = false) :
    _root_.PySem.wpAt (model X.prog X.w) X.A (.func body X.env) (exec (.Expr (.Call (.Attribute (.Call (.Name "super" p0) [] [] p1) "__init__" p2) (e :: es) [] p3) p4) X.env) (fun f s' => f = .next ∧ ∃ H1, Inv X pins σ H1 s' ∧ nx H1) X.xe s := by
  refine ks_wpAt_Expr_any ?_ hi hsw
  refine ks_wpAt_MethodCall ?_ heq
  obtain ⟨nm, q, N, bs, bm, sn, sub, ab, col, dd, k0, k1, k2, k3, k5, hC, hbm⟩ := O.cls
  have hC' := I.kIn _ _ hC
  obtain ⟨cd, hcd⟩ : ∃ cd, PySem.W.clsIn X.K C = some cd := by
    unfold PySem.W.ks_superIn at sup
    cases hc : PySem.W.clsIn X.K C with
    | none => rw [hc] at sup; cases sup
    | some cd => exact ⟨cd, rfl⟩
  have hsup : PySem.W.alongIn X.K "__init__" ((cd.mro.dropWhile (· != .ref C)).drop 1) = some (some (.builtin "ValueError.__init__")) := by
    unfold PySem.W.ks_superIn at sup
    rw [hcd] at sup
    exact sup
  obtain ⟨t1, hoe⟩ := exo_at I.hok ea
  have hnc : ∀ c, (({ cls := .ref C, dict := none, data := .fields #[.ref t1, .none, .none, .none, .bool false, .none] } : Obj)).data ≠ .cls c := fun c z => by cases z
  refine ks_wpAt_super_base hks hkc rfl hfu (I.kIn _ _ lkf) rfl hp hco (I.kIn _ _ lkc) rfl hvs hfile top ?_
  obtain ⟨mb, hb1, hb2⟩ := I.mod.blt
  refine PySem.W.ks_loadName_global I.ok.kind hks (Calls.loadGlobal_builtin (by rw [I.ok.glob]; exact I.mod.glob.keeps I.bk) sG (by rw [I.ok.blt]; exact hb1.keeps I.bk) ((hb2 "super" (by decide)).trans (by decide +kernel)) ⟨rfl, ?_⟩)
  refine wpAny_loadName_free I.ok.kind hkc hcel ⟨_, I.kIn _ _ lkcc, rfl⟩ ?_
  obtain ⟨m, hn, hlk⟩ := id I.loc
  obtain ⟨u0, r0, l0⟩ := hlk 0 ar.arg (.ref a) hN0 hs0 (.inl hk0)
  obtain rfl : u0 = Value.ref a := r0
  have hma : m ar.arg = some (.ref a) := by
    rcases l0 with ⟨_, z⟩ | ⟨z | z, _⟩
    · exact z
    · rw [hk0] at z; cases z
    · rw [hk0] at z; cases z
  refine wpAny_loadName_local I.ok.kind hk0 hn hma ?_
  refine ks_wpAny_isType_cls hC' rfl ⟨rfl, ?_⟩
  obtain ⟨hh, g, d, t, os⟩ := s
  refine ks_wpAny_call_super hC' rfl hoe rfl hnc (PySem.W.looks_mroIn I.kIn mro) (fun h1 e1 kp1 => ?_)
  have I1 : Inv X pins σ H ⟨h1, g, d, t, os⟩ := I.kept (t' := t) kp1
  have hoe1 := kp1 _ _ hoe
  have ne : a ≠ C := fun z => by
    rw [z] at hoe
    have hoe := hoe.symm.trans hC'
    cases hoe
  have hI : PySem.W.Looks (model X.prog X.w) h1 (isInstance (.ref a) (.type "ValueError")) true :=
    (show PySem.W.InstAt h1 a ({ cls := .ref C, dict := none, data := .fields #[.ref t1, .none, .none, .none, .bool false, .none] } : Obj) C none from ⟨hoe1, rfl, rfl, trivial⟩).type.andThen (PySem.W.looks_subIn I1.kIn sVE)
  refine PySem.W.kxs_getMethod PySem.W.kxs_ValueError e1 (PySem.W.looks_opaque I1.kIn opq) (l₀ := cd.mro) (fun A Q E s k q => wpAny_bind ((PySem.W.looks_clsIn I1.kIn hcd) A _ E s k (wpAny_pure q))) rfl I1.kIn hsup hI ne rfl ?_
  have kp2 : ∀ b o, h1.get? b = some o → (h1.push (PySem.W.kxs_mw "ValueError.__init__" a)).get? b = some o := fun b o z => Heap.get?_push_of_some _ z
  have hu2 : (h1.push (PySem.W.kxs_mw "ValueError.__init__" a)).get? h1.objs.size = some (PySem.W.kxs_mw "ValueError.__init__" a) := Heap.get?_push_at rfl rfl
  have I2 : Inv X pins σ H ⟨h1.push (PySem.W.kxs_mw "ValueError.__init__" a), g, d, t + 1, os⟩ := I1.kept (t' := t + 1) kp2
  have nH : H h1.objs.size = none := I1.hok.fresh (Nat.le_refl _)
  have I3 : Inv X ((h1.objs.size, PySem.W.kxs_mw "ValueError.__init__" a) :: pins) σ H ⟨h1.push (PySem.W.kxs_mw "ValueError.__init__" a), g, d, t + 1, os⟩ := I2.pins_of fun p hp => by
    rcases List.mem_cons.mp hp with rfl | hp
    · exact ⟨hu2, nH, Nat.ne_of_gt I1.lt, I1.nofs (Nat.le_refl _), fun v z => by cases z⟩
    · exact I2.pin p (List.mem_append_right _ hp)
  show wpAny _ _ (callWith p3 (.ref h1.objs.size) [] (backTo p3 (starEach (e :: es) X.env)) []) _ _ _
  rw [he]
  refine PySem.W.kxs_callWith (i := "ValueError.__init__") (x := a) (by show (false || (backTo p3 (starEach es X.env)).any (·.1)) = false; rw [hpl]; rfl) ?_
  refine Calls.evalArgs_plain ?_
  show wpAny _ _ (spliced (backTo p3 ((false, eval e X.env) :: starEach es X.env))) _ _ _
  rw [← he]
  refine thn (hpa.run p3 _ _ σ H _ I3 h) fun us s4 ⟨vs4, H4, I4, r4, e4, l4, q4⟩ => ?_
  have hu4 := (I4.pin _ (List.mem_append_right _ List.mem_cons_self)).1
  have I5 : Inv X pins σ H4 s4 := I4.pins_of fun p hp => I4.pin p (List.mem_append_right _ (List.mem_cons_of_mem _ hp))
  refine ⟨hu4, ?_⟩
  refine sup_call O I5 e4 hu4 ?_ fun s5 J => ⟨rfl, H4, J, q4⟩
  show us.length ≤ sizeLine
  rw [← Paired.length r4, sizeLine_eq]
  omega
end
/-- an exception's own __init__ by its body -/
theorem fn_ofI {CX : CXT} {P : Program} {w : World} {K : PySem.W.Frag} {mg : Str → Option Value} {base : Heap} {k : Nat} {C fI : Addr} {qual : Str} {st : Stmt} {fd : FuncData} {N ps : List Str} {ar : Arg} {sp : Sp} {ex : Expr} {es : List Expr} {rest : List Stmt} {p0 p1 p2 p3 p4 : Pos}
    (T : Sup P K mg C fI qual st fd) (S : NScope N ps ["__class__"] (defScope st)) (har : ((defArgs st).posonlyargs ++ (defArgs st).args).head? = some ar) (hps : ps[0]? = some ar.arg) (hsu : (defScope st).names.lookup ("super" : Str) = some .globalImplicit)
    (len : ∀ vs H Q E, sp vs H Q E → vs.length = ps.length)
    (hst : defBody st = .Expr (.Call (.Attribute (.Call (.Name "super" p0) [] [] p1) "__init__" p2) (ex :: es) [] p3) p4 :: rest)
    (hside : ∀ (cc cda L : Addr), interactive (envF ⟨"__init__", qual, defArgs st, defBody st, defScope st, [("__class__", cc)], cda⟩ fI L) = false ∧
      swapsWith (.Call (.Attribute (.Call (.Name "super" p0) [] [] p1) "__init__" p2) (ex :: es) [] p3) none p4.line (envF ⟨"__init__", qual, defArgs st, defBody st, defScope st, [("__class__", cc)], cda⟩ fI L) = pure false ∧
      (∃ pl : Sem Bool, eval (.Call (.Attribute (.Call (.Name "super" p0) [] [] p1) "__init__" p2) (ex :: es) [] p3) (envF ⟨"__init__", qual, defArgs st, defBody st, defScope st, [("__class__", cc)], cda⟩ fI L) = (do
        let ov ← attributeBase (.Call (.Name "super" p0) [] [] p1) "__init__" (envF ⟨"__init__", qual, defArgs st, defBody st, defScope st, [("__class__", cc)], cda⟩ fI L) (eval (.Call (.Name "super" p0) [] [] p1) (envF ⟨"__init__", qual, defArgs st, defBody st, defScope st, [("__class__", cc)], cda⟩ fI L))
        standAt p2.atName
        let (f, first) ← holding [ov] (getMethod ov "__init__" pl)
        callWith p3 f first (backTo p3 (starEach (ex :: es) (envF ⟨"__init__", qual, defArgs st, defBody st, defScope st, [("__class__", cc)], cda⟩ fI L))) [])) ∧
      starEach (ex :: es) (envF ⟨"__init__", qual, defArgs st, defBody st, defScope st, [("__class__", cc)], cda⟩ fI L) = (false, eval ex (envF ⟨"__init__", qual, defArgs st, defBody st, defScope st, [("__class__", cc)], cda⟩ fI L)) :: starEach es (envF ⟨"__init__", qual, defArgs st, defBody st, defScope st, [("__class__", cc)], cda⟩ fI L) ∧
      (backTo p3 (starEach es (envF ⟨"__init__", qual, defArgs st, defBody st, defScope st, [("__class__", cc)], cda⟩ fI L))).any (·.1) = false)
    (hbody : ∀ (cc cda : Addr) (A : Around) (outer : List Env) (s : Shared) (H : Hp) (vs : List V) (Q : VK) (E : XK), Room k (A.deeper (envF ⟨"__init__", qual, defArgs st, defBody st, defScope st, [("__class__", cc)], cda⟩ fI s.heap.objs.size)) → sp vs H Q E →
      ∃ (a : Addr) (vs' : List V) (ta : TA) (t : TS), vs = .ref a :: vs' ∧ H a = some (exo a C none) ∧ PA (ncx CX P w K mg base N ⟨"__init__", qual, defArgs st, defBody st, defScope st, [("__class__", cc)], cda⟩ fI A outer s H E) (ex :: es) ta ∧
        PSs (ncx CX P w K mg base N ⟨"__init__", qual, defArgs st, defBody st, defScope st, [("__class__", cc)], cda⟩ fI A outer s H E) rest t ∧
        ta (startF N vs [none]) H fun us H1 => H1 a = some (exo a C none) ∧ us.length ≤ 1000 ∧ t { nx := fun _ H' => Q .non H', rt := Q } (startF N vs [none]) H1) :
    FnOk P w K mg base CX (k + 1) fI fd ps sp := by
  obtain ⟨oc, od, kV, doc, pm, ct, an, osl, cc, cda, ccl, cl, cdd, cld, vs2, ccs, csl, file, tf, efd, lkf, hcd, lkc, hvs, hfile, lkcc⟩ := T.ex
  subst efd
  refine ⟨len, fun A outer s H args us vs Q E hr e0 hb r hsp => ?_⟩
  have hl := len _ _ _ _ hsp
  have KX : K.In s.heap := e0.mod.kin.keeps fun b o e => (e0.bs b o e).1
  have lim : s.heap.NoLimit := e0.mod.nolimit.keeps fun b o e => (e0.bs b o e).1
  have hloc : ∀ y ∈ ps.zip us, (defScope st).names.lookup y.1 = some .local := fun ⟨n, _⟩ hy => S.par n (List.of_mem_zip hy).1
  obtain ⟨h1, h2, ⟨pl, h3⟩, h4, h5⟩ := hside cc cda s.heap.objs.size
  refine ks_codeAny_call_defAt (fd := PySem.W.fnX "__init__" qual (defArgs st) (defBody st) (defScope st) [("__class__", cc)] .none kV doc pm an (.ref cda) ct) (body := defBody st) (binds := ps.zip us) hr.depth (KX _ _ lkf) rfl lim (PySem.W.codeRec_of KX hcd) rfl hb S.nocell hloc (fun h₁ hns kp => ?_) S.co S.gen S.kind
  have C0 : CellsAt [(("__class__" : Str), cc)] ["__class__"] [none] s.heap H := by
    have bc := e0.mod.kin _ _ lkcc
    have hc := e0.bs _ _ bc
    have look1 : ∀ {y : Str} {c : Addr}, List.lookup y [(("__class__" : Str), cc)] = some c → y = "__class__" ∧ c = cc := fun {y c} z => by
      by_cases hy : y = ("__class__" : Str)
      · subst hy
        simp [List.lookup] at z
        exact ⟨rfl, z.symm⟩
      · have e : (y == ("__class__" : Str)) = false := by simpa using hy
        simp [List.lookup, e] at z
    refine ⟨rfl, fun y c z => ?_, fun x y c z1 z2 => (look1 z1).1.trans (look1 z2).1.symm, fun i y z => ?_⟩
    · obtain ⟨_, rfl⟩ := look1 z
      exact ⟨hc.2, _, _, hc.1, rfl⟩
    · cases i with
      | zero =>
        have e : ("__class__" : Str) = y := by simpa using z
        subst e
        exact ⟨cc, by simp [List.lookup], fun v q => by simp at q⟩
      | succ i => simp at z
  have I : Inv (ncx CX P w K mg base N ⟨"__init__", qual, defArgs st, defBody st, defScope st, [("__class__", cc)], cda⟩ fI A outer s H E) [] (startF N vs [none]) H { s with heap := h₁, toks := s.toks + (ps.zip us).length } := inv_startN S hr.hd e0 hl r C0 hns kp
  obtain ⟨a, vs', ta, t, evs, ea, hpa, hrest, hq⟩ := hbody cc cda A outer s H vs Q E (hr.deeper _) hsp
  have hN0 : N[0]? = some ar.arg := by
    have hpre := S.pre
    have q : (ps ++ [("__class__" : Str)])[0]? = some ar.arg := by
      rw [List.getElem?_append_left (by
        cases ps with
        | nil => simp at hps
        | cons _ _ => simp)]
      exact hps
    rw [← hpre, List.getElem?_take_of_lt (by simp)] at q
    exact q
  have hs0 : (startF N vs [none])[0]? = some (some (.ref a)) := by
    rw [evs]
    rfl
  have hloc0 : (defScope st).names.lookup ar.arg = some .local := S.par _ (List.mem_of_getElem? hps)
  have fin : ∀ {σ' : L2.St} {H' : Hp} {v : V} {u : Value} {s' : Shared}, Inv (ncx CX P w K mg base N ⟨"__init__", qual, defArgs st, defBody st, defScope st, [("__class__", cc)], cda⟩ fI A outer s H E) [] σ' H' s' → L2.RelV v u → Q v H' → CE outer P w H s Q u s' :=
    fun {σ' H' v u s'} J rv q => ⟨v, H', J.os, J.bare, J.base, J.hok, rv, q⟩
  have sup := sup_stmt (X := ncx CX P w K mg base N ⟨"__init__", qual, defArgs st, defBody st, defScope st, [("__class__", cc)], cda⟩ fI A outer s H E) (body := defBody st) (p0 := p0) (p1 := p1) (p2 := p2) (p3 := p3) (p4 := p4) (pl := pl) (e := ex) (es := es) (C := C) (a := a)
    (nx := fun H1 => t { nx := fun _ H' => Q .non H', rt := Q } (startF N vs [none]) H1) (fI := fI) (cda := cda) (cc := cc) (ar := ar) (vs := vs2) (file := file) (tf := tf)
    T.O rfl lkf har rfl lkc hvs hfile (by rfl) lkcc hsu (S.frk _ List.mem_cons_self) hloc0 hN0 T.sup T.opq T.sVE T.mro T.sG T.top hpa I hs0 ea hq h1 h2 h3 h4 h5
  show _root_.PySem.wpAt (model P w) (A.deeper (envF ⟨"__init__", qual, defArgs st, defBody st, defScope st, [("__class__", cc)], cda⟩ fI s.heap.objs.size)) (.func (defBody st) (envF ⟨"__init__", qual, defArgs st, defBody st, defScope st, [("__class__", cc)], cda⟩ fI s.heap.objs.size))
    (execs (defBody st) (envF ⟨"__init__", qual, defArgs st, defBody st, defScope st, [("__class__", cc)], cda⟩ fI s.heap.objs.size)) _ _ _
  have sp2 : ∀ (stmts : List Stmt), stmts = .Expr (.Call (.Attribute (.Call (.Name "super" p0) [] [] p1) "__init__" p2) (ex :: es) [] p3) p4 :: rest →
      _root_.PySem.wpAt (model P w) (A.deeper (envF ⟨"__init__", qual, defArgs st, defBody st, defScope st, [("__class__", cc)], cda⟩ fI s.heap.objs.size)) (.func (defBody st) (envF ⟨"__init__", qual, defArgs st, defBody st, defScope st, [("__class__", cc)], cda⟩ fI s.heap.objs.size))
        (execs stmts (envF ⟨"__init__", qual, defArgs st, defBody st, defScope st, [("__class__", cc)], cda⟩ fI s.heap.objs.size)) (fun f s' => CR CX outer P w H s Q E (.ok (.ret (match f with | .ret v => v | _ => .none))) s')
        (ncx CX P w K mg base N ⟨"__init__", qual, defArgs st, defBody st, defScope st, [("__class__", cc)], cda⟩ fI A outer s H E).xe { s with heap := h₁, toks := s.toks + (ps.zip us).length } := fun stmts es' => by
    subst es'
    refine ks_wpAt_execs_cons (ks_wpAt_mono sup (fun f s' ⟨ef, H1, J, q⟩ => ?_) fun _ _ z => z)
    subst ef
    refine PySem.wpAt_of_wpAny (wpAny_mono (hrest.run [] s' _ H1 _ J q) (fun fl s2 hs => ?_) fun e s' hs => hs)
    cases fl with
    | ret u =>
      obtain ⟨v, σ', H', J, rv, q⟩ := hs
      exact fin J rv q
    | next =>
      obtain ⟨σ', H', J, q⟩ := hs
      exact fin (v := V.non) (u := Value.none) J rfl q
    | brk =>
      obtain ⟨_, _, _, q⟩ := hs
      exact False.elim q
    | cont =>
      obtain ⟨_, _, _, q⟩ := hs
      exact False.elim q
  exact sp2 (defBody st) hst
end GX

set_option Elab.async false
set_option linter.all false
set_option maxRecDepth 100000
set_option maxHeartbeats 4000000
namespace GX
open PySem PySem.Spec PyProof.Rows L2
/-- behind a suite whose name goes -/
def endsA (D : Ends) (i : Nat) : Ends := { nx := fun σ' H' => D.nx (σ'.set i none) H', rt := D.rt, bk := fun σ' H' => D.bk (σ'.set i none) H', ct := fun σ' H' => D.ct (σ'.set i none) H' }
/-- what the clauses, named ones too, wish of an exception of the body, one after the other -/
def wManyA (K : PySem.W.Frag) (Wout : WX) (D : Ends) : List (Value × Option Nat × (Addr → Value → Option Addr → TS)) → WX
  | [] => Wout
  | (c, .none, ts) :: r => fun cls d σ H => ∃ b, PySem.W.exmOne K cls c = some b ∧ (b = true → ∀ a, H a = none → ts a cls d D σ H) ∧ (b = false → wManyA K Wout D r cls d σ H)
  | (c, .some i, ts) :: r => fun cls d σ H => ∃ b, PySem.W.exmOne K cls c = some b ∧ (b = true → ∀ a, H a = none → ts a cls d (endsA D i) (σ.set i (some (.ref a))) H) ∧ (b = false → wManyA K Wout D r cls d σ H)
inductive HdsA (X : Cx) : List ExceptHandler → List (Value × Option Nat × (Addr → Value → Option Addr → TS)) → Prop
  | nil : HdsA X [] []
  | plain {x : Str} {c : Value} {ts : Addr → Value → Option Addr → TS} {b₀ : Stmt} {suite : List Stmt} {np pos' : Pos} {hds : List ExceptHandler} {l : List (Value × Option Nat × (Addr → Value → Option Addr → TS))} (hc : Names X x c)
      (hsu : ∀ (a : Addr) (oe : Obj) (cls : Value) (d : Option Addr) (pn : List (Addr × Obj)), Zc cls d oe → (∃ vs, oe.data = .fields vs) → PSs (X.suite a ((a, oe) :: pn)) (b₀ :: suite) (ts a cls d)) (r : HdsA X hds l) :
      HdsA X (.ExceptHandler (some (.Name x np)) none (b₀ :: suite) pos' :: hds) ((c, .none, ts) :: l)
  | named {x n : Str} {i : Nat} {c : Value} {ts : Addr → Value → Option Addr → TS} {b₀ : Stmt} {suite : List Stmt} {np pos' : Pos} {hds : List ExceptHandler} {l : List (Value × Option Nat × (Addr → Value → Option Addr → TS))} (hc : Names X x c)
      (hi : X.N[i]? = some n) (hln : X.env.kindOf n = some .local)
      (hsu : ∀ (a : Addr) (oe : Obj) (cls : Value) (d : Option Addr) (pn : List (Addr × Obj)), Zc cls d oe → (∃ vs, oe.data = .fields vs) → PSs (X.suite a ((a, oe) :: pn)) (b₀ :: suite) (ts a cls d)) (r : HdsA X hds l) :
      HdsA X (.ExceptHandler (some (.Name x np)) (some n) (b₀ :: suite) pos' :: hds) ((c, .some i, ts) :: l)
section
variable {X : Cx} {body : List Stmt} {h₀ : ExceptHandler} {hds : List ExceptHandler} {l : List (Value × Option Nat × (Addr → Value → Option Addr → TS))} {pos : Pos} {tb : WX → TS} {Wout : WX}
theorem ps_try_manyA (hs : X.stack = X.env :: X.outer) (hf : X.env.frame = some X.env.locals) (hN : X.N.Nodup) (tk : Takes X Wout)
    (hb : ∀ (W : WX) (pn : List (Addr × Obj)) (xe : Value → Shared → Prop), Takes (X.tr pn xe) W → PassesOwn (model X.prog X.w) X.A X.env xe → PSs (X.tr pn xe) body (tb W))
    (hh : HdsA X (h₀ :: hds) l) : PS X (.Try body (h₀ :: hds) [] [] pos) (fun D σ H => tb (wManyA X.K Wout D l) D σ H) := by
  refine ⟨fun pins s σ H D I h => ?_⟩
  have ok := I.ok
  have hfr : X.A.frames = some (X.env :: X.outer) := by rw [ok.frames, hs]
  refine wpAny_Try_except ?_
  refine wpAny_mono ((hb (wManyA X.K Wout D l) (X.pn ++ pins) (fun e s₁ => wpAny (model X.prog X.w) X.A (noteFrame e X.env) (fun _ s₂ => wpAny (model X.prog X.w) X.A (setFlight e none) (fun _ s₃ =>
    wpAny (model X.prog X.w) X.A (handleBy e X.env (h₀ :: hds)) (SP X pins D) X.xe s₃) X.xe s₂) X.xe s₁) (fun u s' xx => ?_) PassesOwn.looking).run [] s σ H D (I.toTry _) h) (fun f s1 hsp => ?_) (fun e s1 he => he)
  · obtain ⟨a, B, sI, pins', σ', H', cls, d, rfl, J', nb, up, sky, na, os, ag, w⟩ := xx
    have J : Inv X pins σ' H' sI := J'.ofTry ok
    have sky' : Sky B (X.env :: X.outer) a (Zc cls d) X.env.locals s'.heap := by rw [← hs]; exact sky
    show wpAny (model X.prog X.w) X.A (noteFrame (.ref a) X.env) _ _ _
    refine Sky.land Zc.steady hfr hf sky' fun h3 fl3 up3 => ?_
    have J3 : Inv X pins σ' H' { s' with heap := h3 } := J.landed nb fl3.1 (up.trans up3) os ag
    obtain ⟨oe3, vs3, he3, hz3, hd3⟩ := fl3.there
    have notFr : ∀ {h : Heap} {o : Obj} {vs : Array Value}, h.FunFrames B (X.env :: X.outer) → h.get? a = some o → o.data = .fields vs → a ∉ frs (X.env :: X.outer) := fun {h o vs} ff e dd hm => by
      obtain ⟨_, o', e', hnf⟩ := ff.mem hm
      rw [e] at e'; cases e'
      exact hnf _ dd
    have nfr := notFr fl3.2.2.1 he3 hd3
    have nL : a ≠ X.env.locals := fun z => nfr (List.mem_filterMap.mpr ⟨X.env, List.mem_cons_self, by rw [hf, z]⟩)
    have nF : a ∉ X.fs := fun hm => by
      obtain ⟨e, he, q⟩ := List.mem_filterMap.mp hm
      exact nfr (List.mem_filterMap.mpr ⟨e, List.mem_cons_of_mem _ he, q⟩)
    have S3 := J3.suite he3 hd3 na nL nF
    have LT : PySem.W.Looks (model X.prog X.w) h3 (typeOf (.ref a)) cls := fun A Q E s k q => wpAny_typeOf_ref (k _ _ he3) (by rw [hz3.1]; exact q)
    have test : ∀ {x : Str} {c : Value} {np : Pos} {Q : Value → Shared → Prop} {E : Value → Shared → Prop}, Names X x c → Q c { s' with heap := h3 } → wpAny (model X.prog X.w) (X.A.mark (some (.ref a))) (eval (.Name x np) X.env) Q E { s' with heap := h3 } := fun {x c np Q E} hc q => by
      obtain ⟨hg, hdbg, hm | ⟨hm, hv, hnn⟩⟩ := hc
      · exact ld_glob (X := X.suite a ((a, oe3) :: (X.pn ++ pins))) S3 hg hm q hdbg
      · exact ld_blt (X := X.suite a ((a, oe3) :: (X.pn ++ pins))) S3 hg hm hv q hnn hdbg
    have go : ∀ {hds' : List ExceptHandler} {l' : List (Value × Option Nat × (Addr → Value → Option Addr → TS))}, HdsA X hds' l' → wManyA X.K Wout D l' cls d σ' H' →
        wpAny (model X.prog X.w) X.A (handleBy (.ref a) X.env hds') (SP X pins D) X.xe { s' with heap := h3 } := by
      intro hds' l' hk
      induction hk with
      | nil =>
        intro w
        refine wpAny_handleBy_nil ?_
        obtain ⟨k1, k2, k3, oe, vs, T, oT, ts', he, hz, hd, h1, hr⟩ := id fl3
        unfold PySem.passOn
        refine wpAny_bind (wpAny_field he hd h1 ?_)
        rw [if_neg (show ¬ ((Value.ref T == Value.none) = true) from by simp)]
        have fin : wpAny (model X.prog X.w) X.A (setFlight (.ref a) X.env.frame) (fun _ s4 => wpAny (model X.prog X.w) X.A (throw (.ref a) : Sem Flow) (SP X pins D) X.xe s4) X.xe { s' with heap := h3 } := by
          rw [hf]
          refine HandSPX.setFlight_upZ fl3 fun h4 hh4 up4 => wpAny_throw (tk _ _ ?_)
          exact ⟨a, B, sI, pins, σ', H', cls, d, rfl, J, nb, (up.trans up3).trans up4, .inr (.inr (by rw [hs]; exact hh4)), na, os, ag, w⟩
        first
          | exact wpAny_bind (wpAny_pure (wpAny_bind fin))
          | exact wpAny_bind fin
      | @plain x c ts b₀ suite np pos' hds2 l2 hc hsu r ih =>
        intro w
        obtain ⟨b, hb1, hyes, hno⟩ := w
        refine wpAny_handleBy_cons (codeAny_handlers_test ?_) (by intro q; cases q)
        have LM := PySem.W.exm_one (M := model X.prog X.w) (J3.kIn) LT hb1
        refine test hc (LM.here ?_)
        cases b with
        | true =>
          refine codeAny_handlers_suite ?_
          refine HandSPX.lands_againZ fl3 fun h4 fl4 up4 => ?_
          have J4 : Inv X pins σ' H' { s' with heap := h4 } := J.landed nb fl4.1 ((up.trans up3).trans up4) os ag
          obtain ⟨oe4, vs4, he4, hz4, hd4⟩ := fl4.there
          have S4 := J4.suite he4 hd4 na nL nF
          refine wpAny_mono ((hsu a oe4 cls d (X.pn ++ pins) hz4 ⟨_, hd4⟩).run [] _ _ H' _ S4 (hyes rfl a na)) (fun f s6 hsp => ?_) (fun _ _ z => False.elim z)
          cases f with
          | next =>
            obtain ⟨σ6, H6, S6, q6⟩ := hsp
            exact ⟨_, _, S6.unsuite ok, q6⟩
          | brk =>
            obtain ⟨σ6, H6, S6, q6⟩ := hsp
            exact ⟨_, _, S6.unsuite ok, q6⟩
          | cont =>
            obtain ⟨σ6, H6, S6, q6⟩ := hsp
            exact ⟨_, _, S6.unsuite ok, q6⟩
          | ret u =>
            obtain ⟨v6, σ6, H6, S6, r6, q6⟩ := hsp
            exact ⟨_, _, _, S6.unsuite ok, r6, q6⟩
        | false =>
          show wpAny _ X.A (handleBy (.ref a) X.env hds2) _ _ _
          exact ih (hno rfl)
      | @named x n i c ts b₀ suite np pos' hds2 l2 hc hi hln hsu r ih =>
        intro w
        obtain ⟨b, hb1, hyes, hno⟩ := w
        have hloc : Loc X.env.scope n := .inl hln
        refine wpAny_handleBy_cons (codeAny_handlers_test ?_) (by intro q; cases q)
        have LM := PySem.W.exm_one (M := model X.prog X.w) (J3.kIn) LT hb1
        refine test hc (LM.here ?_)
        cases b with
        | true =>
          refine codeAny_handlers_suite_as ?_
          refine HandSPX.lands_againZ fl3 fun h4 fl4 up4 => ?_
          have J4 : Inv X pins σ' H' { s' with heap := h4 } := J.landed nb fl4.1 ((up.trans up3).trans up4) os ag
          obtain ⟨oe4, vs4, he4, hz4, hd4⟩ := fl4.there
          have S4 := J4.suite he4 hd4 na nL nF
          refine store_ok (X := X.suite a ((a, oe4) :: (X.pn ++ pins))) (v := .ref a) S4 hN hi hloc rfl (fun s5 S5 => ?_) (.inr hln)
          refine wpAny_mono ((hsu a oe4 cls d (X.pn ++ pins) hz4 ⟨_, hd4⟩).run [] s5 _ H' _ S5 (hyes rfl a na)) (fun f s6 hsp => ?_) (fun _ _ z => False.elim z)
          have end_ : ∀ {σ6 : L2.St} {H6 : Hp} {Q : Shared → Prop}, Inv (X.suite a ((a, oe4) :: (X.pn ++ pins))) [] σ6 H6 s6 → (∀ s7, Inv X pins (σ6.set i none) H6 s7 → Q s7) →
              wpAny (model X.prog X.w) X.A (do bindName X.env n .none; unbindBehindTheSuite X.env n pos') (fun _ s7 => Q s7) X.xe s6 := fun {σ6 H6 Q} S6 hq => gone_ok (S6.unsuite ok) hN hi hln hq
          cases f with
          | next =>
            obtain ⟨σ6, H6, S6, q6⟩ := hsp
            exact end_ S6 fun s7 J7 => ⟨_, _, J7, q6⟩
          | brk =>
            obtain ⟨σ6, H6, S6, q6⟩ := hsp
            exact end_ S6 fun s7 J7 => ⟨_, _, J7, q6⟩
          | cont =>
            obtain ⟨σ6, H6, S6, q6⟩ := hsp
            exact end_ S6 fun s7 J7 => ⟨_, _, J7, q6⟩
          | ret u =>
            obtain ⟨v6, σ6, H6, S6, r6, q6⟩ := hsp
            exact end_ S6 fun s7 J7 => ⟨_, _, _, J7, r6, q6⟩
        | false =>
          show wpAny _ X.A (handleBy (.ref a) X.env hds2) _ _ _
          exact ih (hno rfl)
    exact go hh w
  · cases f with
    | next =>
      obtain ⟨σ', H', J', q⟩ := hsp
      exact wpAny_execs_nil ⟨σ', H', J'.ofTry ok, q⟩
    | brk =>
      obtain ⟨σ', H', J', q⟩ := hsp
      exact ⟨σ', H', J'.ofTry ok, q⟩
    | cont =>
      obtain ⟨σ', H', J', q⟩ := hsp
      exact ⟨σ', H', J'.ofTry ok, q⟩
    | ret u =>
      obtain ⟨v, σ', H', J', r, q⟩ := hsp
      exact ⟨v, σ', H', J'.ofTry ok, r, q⟩
end
end GX

set_option Elab.async false
set_option linter.all false
set_option maxRecDepth 100000
set_option maxHeartbeats 4000000
namespace PySem
set_option maxHeartbeats 1000000 in
theorem gx_meets_enumerate_newB1 {v : Value} {o : Obj} {H : Heap → Prop} (B : Begins v o H) :
    Meets (Builtin.«enumerate.__new__» ⟨[.type "enumerate", v], []⟩) (fun _ R s => H s.heap ∧
      R (.ok (.ret (.ref (s.heap.push o).objs.size))) { s with heap := (s.heap.push o).push { cls := .type "enumerate", data := .fields #[.none, .bool false, .ref s.heap.objs.size, rawInt 0, .none, .none] } }) :=
  .of_wp fun prog w A R s h => by
    obtain ⟨hp, g, d, tk, os⟩ := s; obtain ⟨h1, h⟩ := h
    have hsub := sub_enumerate
    have q1 : ∀ {A' : Around} {E : Value → Shared → Prop} {Q : Value → Shared → Prop}, Q (.ref hp.objs.size) ⟨hp.push o, g, d, tk, os⟩ → wpAny (model prog w) A' (pyIter v) Q E ⟨hp, g, d, tk, os⟩ :=
      fun q => B.iter prog w _ _ ⟨hp, g, d, tk, os⟩ _ h1 q
    wp_walk using q1
    refine wpAny_stack_any fun st => wpAny_pure ?_
    split
    · rename_i c _ _ _ _ _
      cases (c == Value.type "enumerate")
      · wp_walk using q1
        exact ⟨_, rfl, h⟩
      · wp_walk using q1
        exact ⟨_, rfl, h⟩
    · wp_walk using q1
      exact ⟨_, rfl, h⟩
theorem gx_enum1 {prog : Program} {w : World} {A : Around} {E : Value → Shared → Prop} {s : Shared} {v : Value} {o : Obj} {H : Heap → Prop} {Q : Value → Shared → Prop} (B : Begins v o H) (h1 : H s.heap)
    (h : ∀ h', IsEnum h' (s.heap.objs.size + 1) s.heap.objs.size 0 .none → h'.get? s.heap.objs.size = some o → h'.objs.size = s.heap.objs.size + 2 →
      (∀ b o, s.heap.get? b = some o → h'.get? b = some o) → Q (.ref (s.heap.objs.size + 1)) { s with heap := h' }) :
    wpAny (model prog w) A (call (.type "enumerate") [v]) Q E s := by
  refine callType_new F.called_enumerate (by decide) (F.typeCall_enumerate_1 _) (F.newCall_enumerate_1 _) (fun obj => F.args_object_init_2 obj _) F.entry_enumerate_new
    (gx_meets_enumerate_newB1 B) ⟨h1, ?_⟩
  have hz : (s.heap.push o).objs.size = s.heap.objs.size + 1 := Heap.size_push ..
  show _ ∧ _
  rw [hz]
  have he : IsEnum ((s.heap.push o).push { cls := .type "enumerate", data := .fields #[.none, .bool false, .ref s.heap.objs.size, rawInt 0, .none, .none] }) (s.heap.objs.size + 1) s.heap.objs.size 0 .none := by
    have := Heap.get?_push_size (s.heap.push o) (o := { cls := .type "enumerate", data := .fields #[.none, .bool false, .ref s.heap.objs.size, rawInt 0, .none, .none] }) rfl
    rw [hz] at this; exact this
  refine ⟨⟨_, he, rfl⟩, h _ he (Heap.get?_push_of_some _ (Heap.get?_push_size _ B.free)) (by rw [Heap.size_push, hz]) fun b o x => Heap.get?_push_of_some _ (Heap.get?_push_of_some _ x)⟩
end PySem
namespace GX
open PySem PySem.Spec PyProof.Rows L2
/-! ### enumerate(tuple) -/
def IteT (K : PySem.W.Frag) (a : Addr) : It :=
  ⟨fun i H => ∃ (xs : List V) (x : V), SqT K H a xs ∧ xs[i]? = some x, fun i H v H' => ∃ T x, v = .ref T ∧ H T = none ∧ H' = upd H T (.tup [.int (i : Nat), x]) ∧ ∀ xs, SqT K H a xs → xs[i]? = some x, fun i H => ∃ xs : List V, SqT K H a xs ∧ xs.length = i⟩
theorem turn_enumT {P : Program} {w : World} {K : PySem.W.Frag} {elts : List Expr} {kk : Nat} {tpos : Pos} (a e it : Addr) :
    Turn P w K (.Tuple elts kk tpos) (IteT K a) [e, it] e (fun i h => (∃ old, IsEnum h e it ((i : Nat) : Int) old) ∧ h.IsTupleIter it a i ∧ e ≠ it ∧ a ≠ e ∧ a ≠ it) where
  mem := by simp
  obj := fun i h st b hb => by
    obtain ⟨⟨old, he⟩, ⟨o, ho, hc, hd⟩, _⟩ := st
    have e' : b = e ∨ b = it := by simpa using hb
    rcases e' with z | z
    · rw [z]; exact ⟨_, he, fun v q => nomatch q⟩
    · rw [z]; exact ⟨o, ho, fun v q => by rw [hd] at q; cases q⟩
  keep := fun i h h' st k => let ⟨⟨old, he⟩, hi, hne⟩ := st; ⟨⟨old, k e (by simp) _ he⟩, hi.at fun o q => k it (by simp) o q, hne⟩
  item := by
    intro X hP hw hK hc i pins s σ H E I hf st hg
    subst hP hw hK
    obtain ⟨⟨old, he⟩, hit, hne, hae, hai⟩ := st
    obtain ⟨xs, x, hq, hx⟩ := hg
    obtain ⟨its, rv, p, hz⟩ := I.tuple hq
    obtain ⟨u, hu, ru⟩ := rv.get hx
    have hel : e < s.heap.objs.size := Heap.lt_size he
    have hil : it < s.heap.objs.size := by obtain ⟨_, q, _⟩ := hit; exact Heap.lt_size q
    have D := Draws.tuple (prog := X.prog) (w := X.w) (A := X.A.in1) (show X.A.in1.handled = none from I.ok.hd hc) it a hai its.toArray
    have hlt : i < its.toArray.size := by
      rcases Nat.lt_or_ge i its.toArray.size with z | z
      · exact z
      · have z' : its.length ≤ i := by simpa using z
        rw [List.getElem?_eq_none z'] at hu
        cases hu
    refine wpAny_pyNext_enum_itemD D he ⟨hit, (show s.heap.IsTuple a its.toArray from p)⟩ hlt hne (by simp [hne, Ne.symm hae]) fun x1 h' tk hx1 ho hst hT hsz hk => ?_
    have ex1 : x1 = u := by
      have q : its[i]? = some x1 := by simpa using hx1
      rw [hu] at q
      exact (Option.some.inj q).symm
    subst ex1
    refine ⟨_, rfl, wpAny_letOwnedTupleGo_enum (s := { s with heap := h', toks := tk + 1 }) ho fun h'' he' sb => ?_⟩
    have hT2 : h''.get? s.heap.objs.size = some { cls := .type "tuple", data := .seq #[.int i tk, x1] } := (sb.2 _ (Nat.ne_of_gt hel)).trans hT
    have new : ObjOk X.prog X.w (upd H s.heap.objs.size (.tup [.int (i : Nat), x])) h'' s.heap.objs.size (.tup [.int (i : Nat), x]) :=
      ⟨by show 2 ≤ sizeLine; decide, [.int i tk, x1], .cons ⟨_, rfl⟩ (.cons ru .nil), ⟨_, hT2, rfl, _, rfl⟩⟩
    have I1 : Inv X pins σ (upd H s.heap.objs.size (.tup [.int (i : Nat), x])) { s with heap := h'', toks := tk + 1 } :=
      I.turnedNew (ch := [e, it]) (fun b ob hb q => (sb.2 b (fun z => hb (by simp [z]))).trans (hk b ob (fun z => hb (by simp [z])) (fun z => hb (by simp [z])) q)) hf (Nat.le_refl _) new
    refine ⟨.ref s.heap.objs.size, _, I1, rfl, ⟨_, x, rfl, I.hok.fresh (Nat.le_refl _), rfl, fun ys hy => by rw [I.tuple_inj hy hq]; exact hx⟩, ⟨⟨x1, ?_⟩, hst.1.at fun o q => (sb.2 it (Ne.symm hne)).trans q, hne, hae, hai⟩, fun b hb => ?_⟩
    · have e1 : ((i + 1 : Nat) : Int) = (i : Int) + 1 := by omega
      rw [e1]; exact he'
    · have hb' : b < s.heap.objs.size := by
        have e' : b = e ∨ b = it := by simpa using hb
        rcases e' with z | z
        · rw [z]; exact hel
        · rw [z]; exact hil
      rw [upd_ne (Nat.ne_of_lt hb')]
      exact (hf b hb).1
  done := by
    intro X hP hw hK hc i pins s σ H E I hf st hg
    subst hP hw hK
    obtain ⟨⟨old, he⟩, hit, hne, hae, hai⟩ := st
    obtain ⟨xs, hq, hx⟩ := hg
    obtain ⟨its, rv, p, hz⟩ := I.tuple hq
    obtain ⟨f0, f1, f2, f3, f4, f5⟩ := hf it (by simp)
    have hl := rv.length
    have D := Draws.tuple (prog := X.prog) (w := X.w) (A := X.A.in1) (show X.A.in1.handled = none from I.ok.hd hc) it a hai its.toArray
    have e0 : its.toArray.size = i := by simp; omega
    exact wpAny_pyNext_enum_endD D he ⟨by rw [e0]; exact hit, (show s.heap.IsTuple a its.toArray from p)⟩ fun h' eb => ⟨rfl, I.turned (t' := s.toks) (fun b o hb q => eb b o hb q) f0 f1 f3 f4 f5⟩
  self := fun A i s Q E st h => let ⟨⟨_, he⟩, _⟩ := st; wpAny_pyIter_enum he h
/-- enumerate(list or tuple) -/
def iEnumA (K : PySem.W.Frag) (ta : TA) : TI := fun σ H R => ta σ H fun vs H1 => ∃ a xs, vs = [.ref a] ∧ ((SqL K H1 a xs ∧ R (Ite K a) H1) ∨ (SqT K H1 a xs ∧ R (IteT K a) H1))
theorem pi_enumA {X : Cx} {e : Expr} {ta : TA} {p pos tpos : Pos} {elts : List Expr} {kk : Nat} (hg : Gl X "enumerate") (hm : X.mg "enumerate" = none) (ha : PA X [e] ta) (hs : starEach [e] X.env = [(false, eval e X.env)] := by rfl) :
    PI X (.Tuple elts kk tpos) (.Call (.Name "enumerate" p) [e] [] pos) (iEnumA X.K ta) := by
  refine ⟨fun pins s σ H R I h => ?_⟩
  refine Call_ (ld_blt I hg hm boot_enumerate (PyProof.Rows.callWith_type1 (thn (ha.run pos pins s σ H _ I h) fun us s1 ⟨vs, H1, I1, r1, q1⟩ => ?_) hs rfl))
  obtain ⟨a, xs, ex, q⟩ := q1
  subst ex
  cases r1 with
  | cons r rr =>
    cases rr
    cases r
    have fr : ∀ b, b = s1.heap.objs.size + 1 ∨ b = s1.heap.objs.size → FpOk X pins H1 b := fun b e' => by
      have hle : s1.heap.objs.size ≤ b := by
        rcases e' with z | z
        · rw [z]; exact Nat.le_add_right _ _
        · rw [z]; exact Nat.le_refl _
      exact I1.fpOk hle (I1.hok.fresh hle)
    rcases q with ⟨hq, q⟩ | ⟨hq, q⟩
    · obtain ⟨its, rv, p', hz⟩ := I1.list hq
      refine call_enumerate_list p'.isList fun h' he hit hsz hk => wpAny_pyIter_enum he ?_
      have I2 : Inv X pins σ H1 { s1 with heap := h' } := I1.kept (t' := s1.toks) hk
      exact ⟨s1.heap.objs.size + 1, [s1.heap.objs.size + 1, s1.heap.objs.size], _, _, H1, rfl, I2, turn_enum a (s1.heap.objs.size + 1) s1.heap.objs.size, ⟨⟨.none, he⟩, hit, Nat.succ_ne_self _⟩, fun b hb => fr b (by simpa using hb), q⟩
    · obtain ⟨its, rv, p', hz⟩ := I1.tuple hq
      have hal := p'.lt
      refine gx_enum1 (begins_tuple a its.toArray) (show s1.heap.IsTuple a its.toArray from p') fun h' he hit hsz hk => wpAny_pyIter_enum he ?_
      have I2 : Inv X pins σ H1 { s1 with heap := h' } := I1.kept (t' := s1.toks) hk
      exact ⟨s1.heap.objs.size + 1, [s1.heap.objs.size + 1, s1.heap.objs.size], _, _, H1, rfl, I2, turn_enumT a (s1.heap.objs.size + 1) s1.heap.objs.size, ⟨⟨.none, he⟩, ⟨_, hit, rfl, rfl⟩, Nat.succ_ne_self _, Nat.ne_of_lt (Nat.lt_succ_of_lt hal), Nat.ne_of_lt hal⟩, fun b hb => fr b (by simpa using hb), q⟩
/-! ### range(n) as a value; a walk of it -/
theorem cr_range1 {X : Cx} : CallR X (.type "range") (fun vs H Q => ∃ j, vs = [V.int j] ∧ ∀ p, H p = none → Q (.ref p) (upd H p (.rng 0 j))) := by
  intro pins s σ H vs us Q I r h
  obtain ⟨j, rfl, q⟩ := h
  obtain ⟨u1, rfl, ri⟩ := vals1 r
  obtain ⟨t, rfl⟩ := ri
  refine call_range_1 ⟨.ref s.heap.objs.size, upd H s.heap.objs.size (.rng 0 j), I.laid (t' := s.toks + 2) (fun b o e => Heap.get?_push_of_some _ e) (Nat.le_refl _) ?_, rfl, q _ (I.hok.fresh (Nat.le_refl _))⟩
  exact ⟨s.toks, t, s.toks + 1, Heap.get?_push_size _ rfl⟩
/-- a range that stands in H, walked -/
def iRngO (tl : TE) : TI := fun σ H R => tl σ H fun x H1 => ∃ a lo hi, x = .ref a ∧ H1 a = some (.rng lo hi) ∧ (-(2 ^ 62) ≤ lo ∧ lo < 2 ^ 62 ∧ -(2 ^ 62) ≤ hi ∧ hi < 2 ^ 62) ∧ R (Itr lo (hi - lo).toNat) H1
theorem pi_rngO {X : Cx} {tg l : Expr} {tl : TE} (hl : PE X l tl) : PI X tg l (iRngO tl) := by
  refine ⟨fun pins s σ H R I h => ?_⟩
  refine thn (hl.run pins s σ H _ I h) fun v s1 ⟨x, H1, I1, r1, q1⟩ => ?_
  obtain ⟨a, lo, hi, e, ha, ⟨b1, b2, b3, b4⟩, q⟩ := q1
  subst e
  cases r1
  obtain ⟨t, u, v, ho⟩ := (show ∃ t u v, s1.heap.get? a = some { cls := .type "range", data := .fields #[.int lo t, .int hi u, .int 1 v] } from I1.hok a _ ha)
  refine wpAny_pyIter_range ho (small_one b1 b2 b3 b4) ?_
  refine ⟨s1.heap.objs.size, [s1.heap.objs.size], _, _, H1, rfl, I1.kept (t' := s1.toks) fun b o e => Heap.get?_push_of_some _ e, turn_range _ lo (hi - lo).toNat, ?_, fun b hb => ?_, q⟩
  · have e1 : lo + ((0 : Nat) : Int) * 1 = lo := by simp
    have e2 : (((hi - lo).toNat : Nat) : Int) - ((0 : Nat) : Int) = Builtin.Range.rangeSize lo hi 1 := by rw [rangeSize_one]; split <;> omega
    show IsRangeIter _ _ (lo + ((0 : Nat) : Int) * 1) ((((hi - lo).toNat : Nat) : Int) - ((0 : Nat) : Int)) 1
    rw [e1, e2]
    exact Heap.get?_push_size _ rfl
  · have e : b = s1.heap.objs.size := by simpa using hb
    subst e
    exact I1.fpOk (Nat.le_refl _) (I1.hok.fresh (Nat.le_refl _))
end GX
namespace PySem
open SrtO
section
open PyProof.Rows
variable {prog : Program} {w : World} {A : Around} {E : Value → Shared → Prop} {s : Shared}
theorem gx_collect_tuple {l : Addr} {vs : List Value} {Q : List Value → Shared → Prop} (hl : s.heap.IsTuple l vs.toArray)
    (h : Q vs { s with heap := (s.heap.push (seqObj "list" #[] 0)).update s.heap.objs.size (Obj.mapSeq (· ++ vs.toArray)) }) (hsz : vs.length ≤ sizeLine) :
    wpAny (model prog w) A (collect (.ref l)) Q E s := by
  obtain ⟨o, ho, hc, n, hd⟩ := id hl
  unfold collect
  refine wpAny_bind (wpAny_runValue (codeAny_builtin entry_proto_collect' ?_))
  show wpAny _ _ (do again (.builtin "list.__iadd__" ⟨[← newList [], .ref l], []⟩)) _ _ s
  refine wpAny_bind (wpAny_newList (wpAny_pure ⟨Code.quiet_builtin _ (by decide +kernel), codeAny_builtin entry_list_iadd' ?_⟩))
  show wpAny _ _ (Builtin.List.listExtendWith (.ref s.heap.objs.size) (.ref l) (.ref s.heap.objs.size)) _ _ { s with heap := s.heap.push (seqObj "list" #[] 0) }
  unfold Builtin.List.listExtendWith
  have ho' : (s.heap.push (seqObj "list" #[] 0)).get? l = some o := Heap.get?_push_of_some _ ho
  refine wpAny_bind (wpAny_typeOf (T := "tuple") ⟨o, ho', hc⟩ ?_)
  have ht : (Value.type "tuple" == Value.type "tuple") = true := by rfl
  rw [if_pos (by rw [ht]; simp)]
  refine wpAny_bind (listItems_at ho' hd ?_)
  refine wpAny_bind (listItems_at (xs := #[]) (n := 0) (Heap.get?_push_size _ rfl) rfl ?_)
  rw [if_neg (by simp)]
  refine wpAny_bind (listUpdate_at (xs := #[]) (n := 0) (Heap.get?_push_size _ rfl) rfl ?_ (Nat.zero_le _) (by show (#[] ++ vs.toArray).size ≤ sizeLine + 1; simp only [Array.size_append, List.size_toArray, List.length_nil]; omega))
  refine wpAny_pure ?_
  show wpAny (model prog w) A (do
      let o ← load s.heap.objs.size
      match o.data with
      | .seq xs _ => pure xs.toList
      | _ => unsupported "internal:collect") Q E { s with heap := (s.heap.push (seqObj "list" #[] 0)).update s.heap.objs.size (Obj.mapSeq (· ++ vs.toArray)) }
  refine wpAny_bind (wpAny_load (get?_update_seq (Heap.get?_push_size _ rfl) _) ?_)
  show wpAny _ _ (pure ((#[] : Array Value) ++ vs.toArray).toList) Q E _
  rw [show ((#[] : Array Value) ++ vs.toArray).toList = vs by simp]
  exact wpAny_pure h
theorem gx_sorted_ordT {l : Addr} {vs : List Value} {ltv : Value → Value → Bool} {Q : Value → Shared → Prop} (O : Swo ltv) (hl : s.heap.IsTuple l vs.toArray) (hz : vs.length ≤ sizeLine)
    (hS : 2 ≤ vs.length → ∀ (h₁ : Heap) (a : Addr), h₁.get? a = some (seqObj "list" vs.toArray 0) → (∀ b o, s.heap.get? b = some o → b ≠ a ∧ h₁.get? b = some o) → SortableO prog w A.in1.in1 { s with heap := h₁ } a vs ltv)
    (h : ∀ out : List Value, Srtd ltv out → Stb ltv out vs → Q (.ref (s.heap.objs.size + 1)) { s with heap := sortedAll s.heap vs out.toArray }) :
    wpAny (model prog w) A (call (.builtin "sorted") [.ref l]) Q E s := by
  refine Calls.call_function_entry kind_sorted plain_sorted entry_sorted (args_sorted1 _) ?_
  unfold Builtin.«sorted»
  refine wpAny_bind (m := checkCount "sorted" 1 1 _) (wpAny_pure ?_)
  refine wpAny_bind (gx_collect_tuple hl ?_ hz)
  refine wpAny_bind (wpAny_newList ?_ hz)
  have hsz : ((s.heap.push (seqObj "list" #[] 0)).update s.heap.objs.size (Obj.mapSeq (· ++ vs.toArray))).objs.size = s.heap.objs.size + 1 := by
    rw [Heap.size_update, size_push']
  have hoL : (((s.heap.push (seqObj "list" #[] 0)).update s.heap.objs.size (Obj.mapSeq (· ++ vs.toArray))).push (seqObj "list" vs.toArray 0)).get? (s.heap.objs.size + 1) = some (seqObj "list" vs.toArray 0) := by
    rw [← hsz]; exact Heap.get?_push_size _ rfl
  have keep : ∀ b o, s.heap.get? b = some o → b ≠ s.heap.objs.size + 1 ∧ (((s.heap.push (seqObj "list" #[] 0)).update s.heap.objs.size (Obj.mapSeq (· ++ vs.toArray))).push (seqObj "list" vs.toArray 0)).get? b = some o := fun b o q => by
    have hlt : b < s.heap.objs.size := Heap.lt_size q
    refine ⟨Nat.ne_of_lt (Nat.lt_succ_of_lt hlt), Heap.get?_push_of_some _ ?_⟩
    rw [Heap.get?_update_ne _ _ _ _ (Nat.ne_of_lt hlt)]
    exact Heap.get?_push_of_some _ q
  show wpAny _ _ _ _ _ { s with heap := ((s.heap.push (seqObj "list" #[] 0)).update s.heap.objs.size (Obj.mapSeq (· ++ vs.toArray))).push (seqObj "list" vs.toArray 0) }
  rw [hsz]
  refine wpAny_bind (wpAny_holding (wpAny_call_entry slot_list_sort ⟨_, hoL, rfl⟩ entry_list_sort (list_sort_ord O hoL hz (fun h2 => hS h2 _ _ hoL keep) fun out hs hb => ⟨_, rfl, ?_⟩) (args_list_sort _)))
  exact wpAny_pure ⟨_, rfl, h out hs hb⟩
end
end PySem
namespace GX
open PySem PySem.Spec PyProof.Rows L2
/-- sorted(list or tuple of ints), any number of them -/
def rSortedIA (K : PySem.W.Frag) : List V → Hp → VK → Prop := fun vs H Q => ∃ (a : Addr) (ns : List Int), vs = [V.ref a] ∧ (SqL K H a (ns.map V.int) ∨ SqT K H a (ns.map V.int)) ∧
  ∀ (ns' : List Int) (p : Addr), ns'.Perm ns → ns'.Pairwise (· ≤ ·) → H p = none → Q (.ref p) (upd H p (.lst (ns'.map V.int)))
theorem cr_sortedIA {X : Cx} : CallR X (.builtin "sorted") (rSortedIA X.K) := by
  intro pins s σ H vs us Q I r h
  obtain ⟨a, ns, rfl, hs, q⟩ := h
  rcases hs with hs | hs
  · exact cr_sortedI pins s σ H _ us Q I r ⟨a, ns, rfl, hs, q⟩
  · obtain ⟨its, rv, hl, hz⟩ := I.tuple hs
    rw [Vals.ref1 r]
    have hi := rv.ints
    refine gx_sorted_ordT SrtO.swo_int (show s.heap.IsTuple a its.toArray from hl) (by rw [← rv.length]; exact hz) (fun h2 h₁ a' _ _ => SrtO.ints_sortable hi h2) fun out h1 h2 => ?_
    obtain ⟨k1, k2, k3⟩ := SrtO.ints_out hi h1 h2
    obtain ⟨ep, he'⟩ := PyProof.Rows.sortedAll_at s.heap its out.toArray
    have hlen : ((out.map SrtO.iv).map V.int).length ≤ sizeLine := by
      rw [List.length_map, k2.length_eq]
      rw [List.length_map] at hz
      exact hz
    exact ⟨.ref _, upd H (s.heap.objs.size + 1) (.lst ((out.map SrtO.iv).map V.int)), I.laid (t' := s.toks) (fun _ _ => PyProof.Rows.sortedAll_old) (Nat.le_succ _) ⟨hlen, out, ep, vals_of_ints k1, he'⟩, rfl, q _ _ k2 k3 (I.hok.fresh (Nat.le_succ _))⟩
end GX

set_option Elab.async false
set_option linter.all false
set_option maxRecDepth 100000
set_option maxHeartbeats 4000000
namespace PySem
theorem gx_tuple_mul1 (l : Addr) (items : Array Value) (n : Nat) (dd : Option Addr) (sl : Array (Option Value)) (u : Tok) :
    Meets (Builtin.«tuple.__mul__» { pos := [.ref l, .int 1 u] }) fun _ R s => s.heap.get? l = some { cls := .type "tuple", dict := dd, data := .seq items n, slots := sl } ∧ R (.ok (.ret (.ref l))) s :=
  .of_wp fun prog w A R s h => by
    obtain ⟨hp, g, d, tk, os⟩ := s; obtain ⟨h1, h⟩ := h
    wp_walk
    exact ⟨_, rfl, h⟩
theorem gx_tuple_mul0 (l : Addr) (items : Array Value) (n : Nat) (dd : Option Addr) (sl : Array (Option Value)) (u : Tok) :
    Meets (Builtin.«tuple.__mul__» { pos := [.ref l, .int 0 u] }) fun _ R s => s.heap.get? l = some { cls := .type "tuple", dict := dd, data := .seq items n, slots := sl } ∧ items.isEmpty = false ∧ R (.ok (.ret (Value.ref s.heap.objs.size))) { s with heap := s.heap.push { cls := Value.type "tuple", data := Data.seq #[] }, toks := s.toks } :=
  .of_wp fun prog w A R s h => by
    obtain ⟨hp, g, d, tk, os⟩ := s; obtain ⟨h1, h2, h⟩ := h
    wp_walk
    exact ⟨_, rfl, h⟩
end PySem
namespace L2
open PySem PySem.Spec PyProof.Rows
/-- tuple * k, k from 0 on -/
def rRepA (K : PySem.W.Frag) : R2 := fun x y H Q => ∃ l k xs, x = .ref l ∧ y = .int k ∧ SqT K H l xs ∧ xs ≠ [] ∧ 0 ≤ k ∧ k ≤ 1000 ∧ xs.length ≤ 1000 ∧ (k = 1 → Q (.ref l) H) ∧ (k ≠ 1 → ∀ p, H p = none → Q (.ref p) (upd H p (.tup (List.replicate k.toNat xs).flatten)))
section
variable {X : Cx}
theorem op_repA : OpR X (binaryOp .Mult) (rRepA X.K) := by
  intro pins s σ H x y v u Q I rx ry h
  obtain ⟨l, k, xs, rfl, rfl, hT, hne, h1, h2, hz, q1, q2⟩ := h
  by_cases k2 : 2 ≤ k
  · exact op_repT pins s σ H _ _ v u Q I rx ry ⟨l, k, xs, rfl, rfl, hT, hne, k2, h2, hz, q2 (by omega)⟩
  cases rx
  obtain ⟨t, rfl⟩ := ry
  obtain ⟨its, r, ⟨⟨cls, dd, data, sl⟩, ho, hc, n, hd⟩, hs⟩ := I.tuple hT
  simp only at hc hd
  subst hc hd
  have hle : its.length = xs.length := r.length.symm
  have hn : its ≠ [] := fun e => hne (by
    rw [e] at hle
    exact List.eq_nil_of_length_eq_zero hle.symm)
  have hi : its.toArray.isEmpty = false := by
    cases its with
    | nil => exact absurd rfl hn
    | cons a b => rfl
  by_cases k1 : k = 1
  · subst k1
    refine wpAny_binaryOp_repeat_ref (T := "tuple") (U := "int") (by decide) ⟨_, ho, rfl⟩ (fun s' => typeIs_int s' 1 t) noFill_tuple_mul F.fills_int_mul F.slot_int_rmul repeat_tuple F.slot_int_index.lookup
      (call_meets F.slot_int_rmul (typeIs_int s 1 t) F.entry_int_rmul (F.args_int_rmul_2 _ _) (int_rmul_tuple 1 t l its.toArray n dd sl)
        ⟨ho, rfl, ⟨_, ho, rfl⟩, call_meets F.slot_tuple_mul ⟨_, ho, rfl⟩ F.entry_tuple_mul (F.args_tuple_mul_2 _ _) (gx_tuple_mul1 l its.toArray n dd sl t) ⟨ho, ?_⟩⟩)
    exact ⟨.ref l, H, I, rfl, q1 rfl⟩
  · have k0 : k = 0 := by omega
    subst k0
    refine wpAny_binaryOp_repeat_ref (T := "tuple") (U := "int") (by decide) ⟨_, ho, rfl⟩ (fun s' => typeIs_int s' 0 t) noFill_tuple_mul F.fills_int_mul F.slot_int_rmul repeat_tuple F.slot_int_index.lookup
      (call_meets F.slot_int_rmul (typeIs_int s 0 t) F.entry_int_rmul (F.args_int_rmul_2 _ _) (int_rmul_tuple 0 t l its.toArray n dd sl)
        ⟨ho, rfl, ⟨_, ho, rfl⟩, call_meets F.slot_tuple_mul ⟨_, ho, rfl⟩ F.entry_tuple_mul (F.args_tuple_mul_2 _ _) (gx_tuple_mul0 l its.toArray n dd sl t) ⟨ho, hi, ?_⟩⟩)
    refine ⟨.ref s.heap.objs.size, _, I.laid (t' := s.toks) (o := .tup []) (fun b ob q => Heap.get?_push_of_some _ q) (Nat.le_refl _) ?_, rfl, q2 k1 _ (I.hok.fresh (Nat.le_refl _))⟩
    exact ⟨Nat.zero_le _, [], .nil, IsTup.new _ _⟩
end
end L2

set_option Elab.async false
set_option linter.all false
set_option maxRecDepth 100000
set_option maxHeartbeats 4000000
namespace L2
open PySem PySem.Spec PyProof.Rows
section
variable {X : Cx} {CX : CXT} {k : Nat} {f C : Addr} {fd : FuncData} {ps ks : List Str} {sp : Sp} {E : St → XK} {x m : Str} {p pos apos : Pos} {e o : Expr} {es : List Expr} {kws : List Keyword} {te ta : TE} {t tk : TA} {g : List Value → List Value → List Value} {gV : List V → List V → List V}
/-- a call with keywords inside a try -/
def tCallKS (sp : Sp) (gV : List V → List V → List V) (E : St → XK) (t tk : TA) : TE := fun σ H Q => t σ H fun vs H1 => tk σ H1 fun zs H2 => sp (gV vs zs) H2 Q (E σ)
theorem run_fnks {pins : List (Addr × Obj)} {σ : St} {H : Hp} {s : Shared} {Q : VK} {us ws : List Value} {vs zs : List V} (F : FnOk X.prog X.w X.K X.mg X.base CX k f fd ps sp) (hr : Room k X.A) (hb : KBinds X.K fd ps ks g gV) (hx : PassesAt CX X σ (E σ))
    (I : Inv X pins σ H s) (r : Vals vs us) (rz : Vals zs ws) (h : sp (gV vs zs) H Q (E σ)) : wpAny (model X.prog X.w) X.A (call (.ref f) us (ks.zip ws)) (EP X pins σ Q) X.xe s := by
  have r2 := hb.rel r rz
  have hl : (g us ws).length = ps.length := by rw [← r2.length]; exact F.len _ _ _ _ h
  refine wpAny_call (codeAny_mono (F.run X.A X.stack s H ⟨us, ks.zip ws⟩ (g us ws) (gV vs zs) Q (E σ) hr I.env0 (hb.to s us ws I.kIn hl) r2 h) fun r s' hq => ?_)
  cases r with
  | error e => exact hx pins H s e s' I hq
  | ok fl =>
    cases fl with
    | ret u => exact I.after hq
    | next => exact False.elim hq
    | brk => exact False.elim hq
    | cont => exact False.elim hq
theorem pe_callKS (F : FnOk X.prog X.w X.K X.mg X.base CX k f fd ps sp) (hr : Room k X.A) (hg : Gl X x) (hm : X.mg x = some (.ref f)) (hk : PySem.W.keepIn X.K (.ref f) = true) (hb : KBinds X.K fd ps ks g gV) (hx : ∀ σ, PassesAt CX X σ (E σ))
    (ha : PA X (e :: es) t) (hkw : PK X kws tk) (hall : (backToKw pos (keywordEach kws X.env)).all (·.1.isSome) = true := by rfl) (hks : (backToKw pos (keywordEach kws X.env)).filterMap (·.1) = ks := by rfl)
    (hdb : (x == ("__debug__" : Str)) = false := by decide) (he : starEach (e :: es) X.env = (false, eval e X.env) :: starEach es X.env := by rfl)
    (hpl : ((backTo pos (starEach (e :: es) X.env)).any (·.1) || (backToKw pos (keywordEach kws X.env)).any (·.1.isNone)) = false := by rfl) :
    PE X (.Call (.Name x p) (e :: es) kws pos) (tCallKS sp gV E t tk) := by
  refine ⟨fun pins s σ H Q I h => ?_⟩
  refine wpAny_Call_Name_kw (ld_glob I hg hm ?_ hdb)
  refine PySem.W.callWith_KW (h₀ := X.base) I.ok.mod.kin hk hall (thn (ha.run pos pins s σ H _ I h) fun us s1 ⟨vs, H1, I1, r, q⟩ => ?_) hpl he
  refine thn (hkw.run pos pins s1 σ H1 _ I1 q) fun ws s2 ⟨zs, H2, I2, rz, q2⟩ => ⟨I2.kIn, ?_⟩
  rw [hks]
  exact run_fnks F hr hb (hx σ) I2 r rz q2
end
end L2

set_option Elab.async false
set_option linter.all false
set_option maxRecDepth 100000
set_option maxHeartbeats 4000000
/-! list(enumerate(v)) over what is drawn -/
namespace PySem
theorem gx_no_len : typeLookup (.type "enumerate") "__len__" = pure none := am_miss_of_fast (by decide +kernel)
theorem gx_no_hint : typeLookup (.type "enumerate") "__length_hint__" = pure none := am_miss_of_fast (by decide +kernel)
section
variable {prog : Program} {w : World} {A : Around} {E : Value → Shared → Prop} {s : Shared}
variable {e it S : Addr} {fp : List Addr} {n : Nat} {R : Nat → Value → Prop} {St : Nat → Heap → Prop}
theorem gx_next_held {T : Addr} {i : Nat} {old : Value} {f : Bool} {oT : Obj} {Q : Value → Shared → Prop} (D : Draws prog w A it fp n R St)
    (he : IsEnumHeld s.heap e it i old T f) (oT1 : s.heap.get? T = some oT) (t1 : T ≠ e) (t2 : T ≠ it) (st : St i s.heap) (lt : i < n) (ne : e ≠ it) (nf : e ∉ fp)
    (hQ : ∀ x h' tk, R i x → IsEnumHeld h' e it ((i : Int) + 1) old T true → St (i + 1) h' → h'.get? s.heap.objs.size = some { cls := .type "tuple", data := .seq #[.int i tk, x] } → h'.objs.size = s.heap.objs.size + 1 →
      (∀ b o, b ≠ e → b ≠ it → s.heap.get? b = some o → h'.get? b = some o) → Q (.ref s.heap.objs.size) { s with heap := h', toks := tk + 1 }) :
    wpAny (model prog w) A (Builtin.«enumerate.__next__» ⟨[.ref e], []⟩) (fun fin s' => ∃ v, fin = .done (.ret v) ∧ Q v s') E s := by
  obtain ⟨hp, gg, dd, tk0, os⟩ := s
  show wpAny _ _ (field (.ref e) 2 >>= _) _ _ _
  refine wpAny_bind (wpAny_field he rfl (x := .ref it) rfl ?_)
  refine wpAny_bind (D.item i _ _ _ lt st fun x ha tk rx sa ka => ?_)
  have ka : Heap.SameBut it hp ha := ka
  have ea : IsEnumHeld ha e it i old T f := (ka.2 e ne).trans he
  show wpAny _ _ (field (.ref e) 3 >>= _) _ _ (⟨ha, gg, dd, tk, os⟩ : Shared)
  refine wpAny_bind (wpAny_field ea rfl (x := rawInt i) rfl ?_)
  show wpAny _ _ (field (.ref e) 4 >>= _) _ _ (⟨ha, gg, dd, tk, os⟩ : Shared)
  refine wpAny_bind (wpAny_field ea rfl (x := .none) rfl ?_)
  show wpAny _ _ (mkInt i >>= _) _ _ (⟨ha, gg, dd, tk, os⟩ : Shared)
  refine wpAny_bind (wpAny_mkInt ?_)
  show wpAny _ _ (setField (.ref e) 3 (rawInt ((i : Int) + 1)) >>= _) _ _ (⟨ha, gg, dd, tk + 1, os⟩ : Shared)
  refine wpAny_bind (wpAny_setField_rec ea (by simp) fun hb eb kb => ?_)
  have kb : Heap.SameBut e ha hb := kb
  have eb : IsEnumHeld hb e it ((i : Int) + 1) old T f := eb
  show wpAny _ _ (setField (.ref e) 4 .none >>= _) _ _ (⟨hb, gg, dd, tk + 1, os⟩ : Shared)
  refine wpAny_bind (wpAny_setField_rec eb (by simp) fun hc ec kc => ?_)
  have kc : Heap.SameBut e hb hc := kc
  have ec : IsEnumHeld hc e it ((i : Int) + 1) old T f := ec
  show wpAny _ _ (newTuple [.int i tk, x] >>= _) _ _ (⟨hc, gg, dd, tk + 1, os⟩ : Shared)
  refine wpAny_bind (wpAny_newTuple ?_)
  have z1 : hc.objs.size = hp.objs.size := (kc.1.trans kb.1).trans ka.1
  have le : e < hp.objs.size := Heap.lt_size he
  have ed : IsEnumHeld (hc.push { cls := .type "tuple", data := .seq #[.int i tk, x] }) e it ((i : Int) + 1) old T f := Heap.get?_push_of_some _ ec
  have td : (hc.push { cls := .type "tuple", data := .seq #[.int i tk, x] }).get? hp.objs.size = some { cls := .type "tuple", data := .seq #[.int i tk, x] } := by
    rw [← z1]
    exact Heap.get?_push_size _ rfl
  have zd : (hc.push { cls := .type "tuple", data := .seq #[.int i tk, x] }).objs.size = hp.objs.size + 1 := by rw [Heap.size_push, z1]
  have kd : ∀ b o, b ≠ e → b ≠ it → hp.get? b = some o → (hc.push { cls := .type "tuple", data := .seq #[.int i tk, x] }).get? b = some o := fun b o n1 n2 q =>
    Heap.get?_push_of_some _ (kc.extBut b o n1 (kb.extBut b o n1 (ka.extBut b o n2 q)))
  have sd : St (i + 1) (hc.push { cls := .type "tuple", data := .seq #[.int i tk, x] }) := D.frame _ _ _ sa fun b hb' o q => by
    have n1 : b ≠ e := fun z => nf (z ▸ hb')
    exact Heap.get?_push_of_some _ (kc.extBut b o n1 (kb.extBut b o n1 q))
  generalize hc.push { cls := .type "tuple", data := .seq #[.int i tk, x] } = hd at ed td zd kd sd
  show wpAny _ _ (Builtin.SmallTypes.ownedTupleIsFree (.ref e) >>= _) _ _ (⟨hd, gg, dd, tk + 1, os⟩ : Shared)
  rw [z1]
  refine wpAny_bind (wpAny_tupleHeld_enum (s := ⟨hd, gg, dd, tk + 1, os⟩) ed (kd T oT t1 t2 oT1) fun hf ef kf => ?_)
  have kf : Heap.SameBut e hd hf := kf
  simp only [Bool.false_eq_true, if_false]
  refine wpAny_pure ⟨_, rfl, hQ x hf tk rx ef (D.frame _ _ _ sd fun b hb' o q => kf.extBut b o (fun z => nf (z ▸ hb')) q) (kf.extBut _ _ (Nat.ne_of_gt le) td) ?_ fun b o n1 n2 q => kf.extBut b o n1 (kd b o n1 n2 q)⟩
  show hf.objs.size = hp.objs.size + 1
  rw [kf.1, zd]
/-- the enumerate object ahead of turn i: fresh, or with a tuple still out -/
def EnSt (St : Nat → Heap → Prop) (h : Heap) (e it S : Addr) (i : Nat) : Prop := St i h ∧ ((∃ old, IsEnum h e it i old) ∨ ∃ old T f oT, IsEnumHeld h e it i old T f ∧ h.get? T = some oT ∧ T ≠ e ∧ T ≠ it ∧ T ≠ S)
theorem EnSt.keep {h h' : Heap} {i : Nat} (st : EnSt St h e it S i) (D : ∀ i h h', St i h → (∀ b ∈ fp, ∀ o, h.get? b = some o → h'.get? b = some o) → St i h') (nS : S ∉ fp) (nE : e ≠ S) (k : ∀ b o, b ≠ S → h.get? b = some o → h'.get? b = some o) : EnSt St h' e it S i := by
  obtain ⟨st, q⟩ := st
  refine ⟨D _ _ _ st fun b hb o y => k b o (fun z => nS (z ▸ hb)) y, ?_⟩
  rcases q with ⟨old, q⟩ | ⟨old, T, f, oT, q, y, r1, r2, r3⟩
  · exact .inl ⟨old, k e _ nE q⟩
  · exact .inr ⟨old, T, f, oT, k e _ nE q, k T oT r3 y, r1, r2, r3⟩
theorem gx_item {i : Nat} {Q : Option Value → Shared → Prop} (D : Draws prog w A.in1 it fp n R St) (ne : e ≠ it) (nf : e ∉ fp) (hS : S < s.heap.objs.size) (st : EnSt St s.heap e it S i) (lt : i < n)
    (hQ : ∀ x h' tk, R i x → EnSt St h' e it S (i + 1) → h'.get? s.heap.objs.size = some { cls := .type "tuple", data := .seq #[.int i tk, x] } → (∀ b o, b ≠ e → b ≠ it → s.heap.get? b = some o → h'.get? b = some o) → Q (some (.ref s.heap.objs.size)) { s with heap := h', toks := tk + 1 }) :
    wpAny (model prog w) A (pyNext (.ref e)) Q E s := by
  obtain ⟨st, q⟩ := st
  have ec : ((i + 1 : Nat) : Int) = (i : Int) + 1 := by omega
  have lit : it < s.heap.objs.size := let ⟨_, y⟩ := D.live _ _ st; Heap.lt_size y
  rcases q with ⟨old, q⟩ | ⟨old, T, f, oT, q, y, r1, r2, r3⟩
  · have le : e < s.heap.objs.size := Heap.lt_size q
    exact wpAny_pyNext_enum_itemC D q st lt ne nf fun x h' tk rx ho st' hT hz hk => hQ x h' tk rx ⟨st', .inr ⟨x, s.heap.objs.size, false, _, by rw [ec]; exact ho, hT, Nat.ne_of_gt le, Nat.ne_of_gt lit, Nat.ne_of_gt hS⟩⟩ hT hk
  · have hy : s.TypeIs (.ref e) "enumerate" := ⟨_, q, rfl⟩
    unfold pyNext
    refine wpAny_bind (wpAny_attempt (wpAny_callSpecial?_slot (name := Str.ofString "__next__") hy F.slot_enumerate_next (wpAny_call_entry F.slot_enumerate_next hy F.entry_enumerate_next
      (gx_next_held D q y r1 r2 st lt ne nf fun x h' tk rx ho st' hT hz hk => wpAny_pure (hQ x h' tk rx ⟨st', .inr ⟨old, T, true, oT, by rw [ec]; exact ho, hk T oT r1 r2 y, r1, r2, r3⟩⟩ hT hk)) (F.args_enumerate_next_1 _))))
theorem gx_done {Q : Option Value → Shared → Prop} (D : Draws prog w A.in1 it fp n R St) (st : EnSt St s.heap e it S n) (hQ : ∀ h', Heap.ExtBut it s.heap h' → Q none { s with heap := h' }) : wpAny (model prog w) A (pyNext (.ref e)) Q E s := by
  obtain ⟨st, q⟩ := st
  rcases q with ⟨old, q⟩ | ⟨old, T, f, oT, q, y, r1, r2, r3⟩
  · exact wpAny_pyNext_enum_endD D q st hQ
  · have hy : s.TypeIs (.ref e) "enumerate" := ⟨_, q, rfl⟩
    unfold pyNext
    refine wpAny_bind (wpAny_attempt (wpAny_callSpecial?_slot (name := Str.ofString "__next__") hy F.slot_enumerate_next (wpAny_call_entry F.slot_enumerate_next hy F.entry_enumerate_next ?_ (F.args_enumerate_next_1 _))))
    show wpAny _ _ (field (.ref e) 2 >>= _) _ _ _
    refine wpAny_bind (wpAny_field q rfl (x := .ref it) rfl ?_)
    refine wpAny_bind (D.done _ _ _ st fun h' x he' hx' => ?_)
    obtain ⟨o, ho, hc⟩ := hx'
    exact wpAny_bind (wpAny_isInstance (T := "StopIteration") (b := true) ⟨o, ho, hc⟩ isSubtype_stop (wpAny_pure (hQ _ he')))
/-- the tuples given out so far -/
structure EnG (R : Nat → Value → Prop) (lo : Addr) (h : Heap) (as : List Addr) : Prop where
  nd : as.Nodup
  above : ∀ a ∈ as, lo < a
  pairs : ∀ (j : Nat) (a : Addr), as[j]? = some a → ∃ tk x, R j x ∧ h.get? a = some { cls := .type "tuple", data := .seq #[.int j tk, x] }
end
end PySem

set_option Elab.async false
set_option linter.all false
set_option maxRecDepth 100000
set_option maxHeartbeats 4000000
namespace PySem
section
variable {prog : Program} {w : World} {A : Around} {s : Shared} {Z : Result → Shared → Prop}
variable {e it S : Addr} {fp : List Addr} {n : Nat} {R : Nat → Value → Prop} {St : Nat → Heap → Prop}
/-- the list S is being filled from e: i tuples are out -/
structure EnAt (St : Nat → Heap → Prop) (R : Nat → Value → Prop) (e it S : Addr) (h0 h : Heap) (i : Nat) (acc : Array Value) (c : Nat) (as : List Addr) : Prop where
  sh : h.get? S = some { cls := .type "list", dict := none, data := .seq acc c, slots := #[] }
  ac : acc.toList = as.map Value.ref
  ln : as.length = i
  gr : EnG R S h as
  kp : ∀ b o, b ≠ S → b ≠ e → b ≠ it → h0.get? b = some o → h.get? b = some o
theorem en_fill (hi : it < S) (he : e < S) (ne : e ≠ it) (nf : e ∉ fp) (nS : S ∉ fp) (hn : n ≤ sizeLine) (D : Draws prog w A.in1.in1 it fp n R St) (res : Value) {h0 : Heap}
    (hZ : ∀ h' tk acc c as, EnAt St R e it S h0 h' n acc c as → Z (.ok (.ret res)) { s with heap := h', toks := tk }) :
    ∀ (k i : Nat) (h : Heap) (tk c : Nat) (acc : Array Value) (as : List Addr), n - i = k → i ≤ n → EnSt St h e it S i → EnAt St R e it S h0 h i acc c as →
      codeAny (model prog w) A (.builtin "list.extend.loop" ⟨[.ref S, .ref e, res], []⟩) Z { s with heap := h, toks := tk } := by
  intro k
  induction k with
  | zero =>
    intro i h tk c acc as e0 le st at0
    obtain rfl : i = n := by omega
    refine codeAny_builtin F.entry_extend_loop ?_
    rw [Around.under_plainId F.plain_extend_loop _]
    show wpAny _ A.in1 (pyNext (.ref e) >>= _) _ _ _
    refine wpAny_bind (gx_done (s := { s with heap := h, toks := tk }) D st fun h' ex => ?_)
    exact wpAny_pure (hZ h' tk acc c as ⟨ex S _ (Nat.ne_of_gt hi) at0.sh, at0.ac, at0.ln, ⟨at0.gr.nd, at0.gr.above, fun j a q => let ⟨t, x, z1, z2⟩ := at0.gr.pairs j a q; ⟨t, x, z1, ex a _ (Nat.ne_of_gt (Nat.lt_trans hi (at0.gr.above a (List.mem_of_getElem? q)))) z2⟩⟩, fun b o z1 z2 z3 z4 => ex b o z3 (at0.kp b o z1 z2 z3 z4)⟩)
  | succ k more =>
    intro i h tk c acc as e0 le st at0
    have lt : i < n := by omega
    have z0 : acc.size = i := by rw [← Array.length_toList, at0.ac, List.length_map, at0.ln]
    have lS : S < h.objs.size := Heap.lt_size at0.sh
    refine codeAny_builtin F.entry_extend_loop ?_
    rw [Around.under_plainId F.plain_extend_loop _]
    show wpAny _ A.in1 (pyNext (.ref e) >>= _) _ _ _
    refine wpAny_bind (gx_item (s := { s with heap := h, toks := tk }) D ne nf lS st lt fun x h1 tk1 rx st1 hT k1 => ?_)
    dsimp only at hT k1 ⊢
    have sh1 := k1 S _ (Nat.ne_of_gt he) (Nat.ne_of_gt hi) at0.sh
    have k2 : ∀ b o, b ≠ S → h1.get? b = some o → (h1.update S (Obj.mapSeq (·.push (Value.ref h.objs.size)))).get? b = some o := fun b o q z => (Heap.get?_update_other _ _ (Ne.symm q)).trans z
    have k3 : ∀ b o, b ≠ S → b ≠ e → b ≠ it → h.get? b = some o → (h1.update S (Obj.mapSeq (·.push (Value.ref h.objs.size)))).get? b = some o := fun b o q1 q2 q3 z => k2 b o q1 (k1 b o q2 q3 z)
    show wpAny _ A.in1 (updateSeq S (·.push (Value.ref h.objs.size)) >>= _) _ _ _
    refine wpAny_bind (wpAny_updateSeq sh1 rfl (wpAny_pure ⟨plainId_quiet F.plain_extend_loop _, more (i + 1) _ _ _ (acc.push (Value.ref h.objs.size)) (as ++ [h.objs.size]) (by omega) lt (st1.keep D.frame nS (Nat.ne_of_lt he) k2) ⟨Heap.get?_update_self _ sh1 rfl, ?_, ?_, ⟨?_, ?_, ?_⟩, ?_⟩⟩) (by rw [z0]; omega) (by show (acc.push (Value.ref h.objs.size)).size ≤ sizeLine + 1; rw [Array.size_push, z0]; omega))
    · rw [Array.toList_push, at0.ac, List.map_append]; rfl
    · rw [List.length_append, at0.ln]; rfl
    · refine List.nodup_append.mpr ⟨at0.gr.nd, List.nodup_cons.mpr ⟨by simp, List.nodup_nil⟩, fun a ha b hb => ?_⟩
      obtain ⟨j, hj⟩ := List.mem_iff_getElem?.mp ha
      obtain ⟨_, _, _, z⟩ := at0.gr.pairs j a hj
      rw [List.mem_singleton.mp hb]
      exact Nat.ne_of_lt (Heap.lt_size z)
    · intro a ha
      rcases List.mem_append.mp ha with ha | ha
      · exact at0.gr.above a ha
      · rw [List.mem_singleton.mp ha]; exact lS
    · intro j b hj
      by_cases hl : j < as.length
      · rw [List.getElem?_append_left hl] at hj
        obtain ⟨t, y, z1, z2⟩ := at0.gr.pairs j b hj
        have ab := at0.gr.above b (List.mem_of_getElem? hj)
        exact ⟨t, y, z1, k3 b _ (Nat.ne_of_gt ab) (Nat.ne_of_gt (Nat.lt_trans he ab)) (Nat.ne_of_gt (Nat.lt_trans hi ab)) z2⟩
      · rw [List.getElem?_append_right (Nat.le_of_not_lt hl)] at hj
        have hj0 : j - as.length = 0 := by
          cases hd : j - as.length with
          | zero => rfl
          | succ m => rw [hd] at hj; simp at hj
        rw [hj0] at hj
        obtain rfl : h.objs.size = b := by simpa using hj
        obtain rfl : j = i := by have := at0.ln; omega
        exact ⟨tk1, x, rx, k2 _ _ (Nat.ne_of_gt lS) hT⟩
    · exact fun b o q1 q2 q3 z => k3 b o q1 q2 q3 (at0.kp b o q1 q2 q3 z)
theorem en_hint {Q : Bool → Shared → Prop} {E : Value → Shared → Prop} (ty : s.TypeIs (.ref e) "enumerate") (h : Q true s) : wpAny (model prog w) A (Builtin.List.listLengthHint (.ref e)) Q E s := by
  unfold Builtin.List.listLengthHint
  refine wpAny_bind (wpAny_specialOf ty gx_no_len ?_)
  show wpAny _ _ (specialOf (Value.ref e) (Str.ofString "__length_hint__") >>= _) _ _ _
  exact wpAny_bind (wpAny_specialOf ty gx_no_hint (wpAny_pure h))
theorem en_extend (hi : it < S) (he : e < S) (ne : e ≠ it) (nf : e ∉ fp) (nS : S ∉ fp) (hn : n ≤ sizeLine) (D : Draws prog w A.in1.in1 it fp n R St) (res : Value) {c0 : Nat} (sh : s.heap.get? S = some { cls := .type "list", data := .seq #[] c0 }) (q : IsEnum s.heap e it 0 .none) (st : St 0 s.heap)
    (hZ : ∀ h' tk acc c as, EnAt St R e it S s.heap h' n acc c as → Z (.ok (.ret res)) { s with heap := h', toks := tk }) :
    wpAny (model prog w) A.in1 (Builtin.List.listExtendWith (.ref S) (.ref e) res)
      (fun fin s' => match fin with | .done f => Z (.ok f) s' | .again c' => c'.quiet = true ∧ codeAny (model prog w) A c' Z s') (fun x s' => Z (.error x) s') s := by
  have ty : s.TypeIs (.ref e) "enumerate" := ⟨_, q, rfl⟩
  have n1 : Builtin.List.listSameRef (.ref S) (.ref e) = false := by simp [Builtin.List.listSameRef, Nat.ne_of_gt he]
  have n2 : (Value.type "enumerate" == Value.type "list") = false := by decide
  have n3 : (Value.type "enumerate" == Value.type "tuple") = false := by decide
  unfold Builtin.List.listExtendWith
  refine wpAny_bind (wpAny_typeOf ty ?_)
  simp only [n1, n2, n3, Bool.or_false, Bool.false_eq_true, if_false]
  refine wpAny_bind (wpAny_pyIter_enum q ?_)
  refine wpAny_bind (wpAny_holding (en_hint ty ?_))
  show wpAny _ A.in1 (rule "list.extend.makes-room" >>= fun _ => Builtin.List.listTouch (.ref S) >>= fun _ => again (.builtin "list.extend.loop" ⟨[.ref S, .ref e, res], []⟩)) _ _ _
  refine wpAny_bind (wpAny_rule ?_)
  refine wpAny_bind ?_
  show wpAny _ _ (updateSeq S (·.push .none) >>= fun _ => updateSeq S (·.pop)) _ _ _
  refine wpAny_bind (wpAny_updateSeq sh rfl ?_)
  have sh1 := Heap.get?_update_self (Obj.mapSeq (·.push Value.none)) sh rfl
  refine wpAny_updateSeq (hz := by seq_fits) sh1 rfl ?_
  have sh2 := Heap.get?_update_self (Obj.mapSeq (·.pop)) sh1 rfl
  have k : ∀ b o, b ≠ S → s.heap.get? b = some o → ((s.heap.update S (Obj.mapSeq (·.push Value.none))).update S (Obj.mapSeq (·.pop))).get? b = some o := fun b o y z => (Heap.get?_update_other _ _ (Ne.symm y)).trans ((Heap.get?_update_other _ _ (Ne.symm y)).trans z)
  have st1 : EnSt St s.heap e it S 0 := ⟨st, .inl ⟨.none, q⟩⟩
  exact wpAny_pure ⟨plainId_quiet F.plain_extend_loop _, en_fill (s := s) (h0 := s.heap) hi he ne nf nS hn D res hZ n 0 _ s.toks _ #[] [] (Nat.sub_zero _) (Nat.zero_le _) (st1.keep D.frame nS (Nat.ne_of_lt he) k) ⟨sh2, rfl, rfl, ⟨List.nodup_nil, (fun _ z => nomatch z), fun j a z => by simp at z⟩, fun b o y _ _ z => k b o y z⟩⟩
theorem en_init (hi : it < S) (he : e < S) (ne : e ≠ it) (nf : e ∉ fp) (nS : S ∉ fp) (hn : n ≤ sizeLine) (D : Draws prog w A.in1.in1 it fp n R St) (sh : s.heap.get? S = some { cls := .type "list", data := .seq #[] }) (q : IsEnum s.heap e it 0 .none) (st : St 0 s.heap)
    (hZ : ∀ h' tk acc c as, EnAt St R e it S s.heap h' n acc c as → Z (.ok (.ret .none)) { s with heap := h', toks := tk }) :
    wpAny (model prog w) A.in1 (Builtin.«list.__init__» ⟨[.ref S, .ref e], []⟩)
      (fun fin s' => match fin with | .done f => Z (.ok f) s' | .again c' => c'.quiet = true ∧ codeAny (model prog w) A c' Z s') (fun x s' => Z (.error x) s') s := by
  show wpAny _ _ (Builtin.List.listItems (.ref S) >>= fun old => Builtin.List.listUpdate (.ref S) (fun _ => #[]) >>= fun _ => letGo old.toList.reverse >>= fun _ => Builtin.List.listExtendWith (.ref S) (.ref e) .none) _ _ s
  refine wpAny_bind ?_
  unfold Builtin.List.listItems
  refine wpAny_bind (wpAny_seqItems sh rfl (wpAny_pure ?_))
  show wpAny _ _ (updateSeq S (fun _ => #[]) >>= fun _ => letGo (#[] : Array Value).toList.reverse >>= fun _ => Builtin.List.listExtendWith (.ref S) (.ref e) .none) _ _ s
  refine wpAny_bind (wpAny_updateSeq sh rfl ?_)
  have sh1 := Heap.get?_update_self (Obj.mapSeq (fun _ => (#[] : Array Value))) sh rfl
  have k : ∀ b o, b ≠ S → s.heap.get? b = some o → (s.heap.update S (Obj.mapSeq (fun _ => (#[] : Array Value)))).get? b = some o := fun b o y z => (Heap.get?_update_other _ _ (Ne.symm y)).trans z
  refine wpAny_bind (wpAny_letGo ?_)
  exact en_extend hi he ne nf nS hn D .none sh1 (k _ _ (Nat.ne_of_lt he) q) (D.frame _ _ _ st fun b hb o z => k b o (fun y => nS (y ▸ hb)) z) fun h' tk acc c as z => hZ h' tk acc c as ⟨z.sh, z.ac, z.ln, z.gr, fun b o y1 y2 y3 y => z.kp b o y1 y2 y3 (k b o y1 y)⟩
theorem en_call {Q : Value → Shared → Prop} {E : Value → Shared → Prop} (ne : e ≠ it) (nf : e ∉ fp) (hf : ∀ b ∈ fp, b < s.heap.objs.size) (hn : n ≤ sizeLine) (D : Draws prog w A.in1.in1.in1 it fp n R St) (q : IsEnum s.heap e it 0 .none) (st : St 0 s.heap)
    (hQ : ∀ h' tk acc c as, EnAt St R e it s.heap.objs.size s.heap h' n acc c as → Q (.ref s.heap.objs.size) { s with heap := h', toks := tk }) :
    wpAny (model prog w) A (call (.type "list") [.ref e]) Q E s := by
  refine callType_codes (Q₁ := fun v s1 => v = .ref s.heap.objs.size ∧ s1 = { s with heap := s.heap.push { cls := .type "list", data := .seq #[] } }) F.called_list (F.typeCall_list_1 _) F.entry_list_init (code_list_new _ ⟨rfl, rfl⟩) fun v s1 y => ?_
  obtain ⟨rfl, rfl⟩ := y
  have sh : (s.heap.push { cls := .type "list", data := .seq #[] }).get? s.heap.objs.size = some { cls := .type "list", data := .seq #[] } := Heap.get?_push_size _ rfl
  have lit : it < s.heap.objs.size := let ⟨_, y⟩ := D.live _ _ st; Heap.lt_size y
  refine ⟨⟨_, sh, rfl⟩, F.args_list_init_2 _ _, en_init (A := A.in1) lit (Heap.lt_size q) ne nf (fun y => Nat.lt_irrefl _ (hf _ y)) hn D sh (Heap.get?_push_of_some _ q) (D.frame _ _ _ st fun b _ o z => Heap.get?_push_of_some _ z) fun h' tk acc c as z => ?_⟩
  exact ⟨rfl, hQ h' tk acc c as ⟨z.sh, z.ac, z.ln, z.gr, fun b o y1 y2 y3 y => z.kp b o y1 y2 y3 (Heap.get?_push_of_some _ y)⟩⟩
end
end PySem

set_option Elab.async false
set_option linter.all false
set_option maxRecDepth 100000
set_option maxHeartbeats 4000000
namespace GX
open PySem PySem.Spec PyProof.Rows L2
/-- the pairs (j, x) at their addresses -/
def putE : Hp → Nat → List Addr → List V → Hp
  | H, j, a :: as, x :: xs => putE (upd H a (.tup [.int (j : Nat), x])) (j + 1) as xs
  | H, _, _, _ => H
theorem putE_off {b : Addr} : ∀ (as : List Addr) (xs : List V) (H : Hp) (j : Nat), b ∉ as → putE H j as xs b = H b
  | [], _, _, _, _ => rfl
  | _ :: _, [], _, _, _ => rfl
  | a :: as, x :: xs, H, j, q => by
    show putE (upd H a _) (j + 1) as xs b = H b
    rw [putE_off as xs _ _ (fun z => q (List.mem_cons_of_mem _ z)), upd_ne (fun z => q (by rw [z]; exact List.mem_cons_self))]
theorem putE_on : ∀ (as : List Addr) (xs : List V) (H : Hp) (j : Nat), as.length = xs.length → as.Nodup → ∀ i t, as[i]? = some t → ∃ x, xs[i]? = some x ∧ putE H j as xs t = some (.tup [.int ((j + i : Nat) : Int), x])
  | [], _, _, _, _, _, i, t, q => by simp at q
  | _ :: _, [], _, _, l, _, _, _, _ => by cases l
  | a :: as, x :: xs, H, j, l, nd, i, t, q => by
    have nd' := List.nodup_cons.mp nd
    cases i with
    | zero =>
      obtain rfl : a = t := by simpa using q
      refine ⟨x, rfl, ?_⟩
      show putE (upd H a _) (j + 1) as xs a = _
      rw [putE_off as xs _ _ nd'.1, upd_same]
      rfl
    | succ i =>
      obtain ⟨y, y1, y2⟩ := putE_on as xs (upd H a (.tup [.int (j : Nat), x])) (j + 1) (Nat.succ.inj l) nd'.2 i t (by simpa using q)
      refine ⟨y, by simpa using y1, ?_⟩
      show putE (upd H a _) (j + 1) as xs t = _
      rw [y2, show j + 1 + i = j + (i + 1) by omega]
/-- ts hold the pairs (0, x0), (1, x1) .. -/
def EnumT (H : Hp) (ts : List Addr) (xs : List V) : Prop := ts.length = xs.length ∧ ∀ j t, ts[j]? = some t → ∃ x, xs[j]? = some x ∧ H t = some (.tup [.int (j : Nat), x])
theorem refs_vals : ∀ as : List Addr, Vals (as.map V.ref) (as.map Value.ref)
  | [] => .nil
  | _ :: as => .cons rfl (refs_vals as)
section
variable {X : Cx}
theorem enums_laid {pins : List (Addr × Obj)} {σ : L2.St} {H : Hp} {s : Shared} {h' : Heap} {tk : Nat} {xs : List V} {its : List Value} {acc : Array Value} {c : Nat} {as : List Addr} {S : Addr} (I : Inv X pins σ H s) (l0 : s.heap.objs.size ≤ S) (hz : xs.length ≤ sizeLine) (rv : Vals xs its)
    (hk : ∀ b o, s.heap.get? b = some o → h'.get? b = some o) (sh : h'.get? S = some { cls := .type "list", dict := none, data := .seq acc c, slots := #[] }) (hl : as.length = its.toArray.size) (g : EnG (fun i v => its.toArray[i]? = some v) S h' as) (ac : acc.toList = as.map Value.ref) :
    ∃ H' : Hp, (∀ b o, H b = some o → H' b = some o) ∧ H S = none ∧ (∀ t ∈ as, H t = none) ∧ S ∉ as ∧ as.Nodup ∧ H' S = some (.lst (as.map V.ref)) ∧ EnumT H' as xs ∧ Inv X pins σ H' { s with heap := h', toks := tk } := by
  have lx : as.length = xs.length := by rw [hl, rv.length]; simp
  have nS : S ∉ as := fun z => Nat.lt_irrefl _ (g.above _ z)
  have new : ∀ t ∈ as, H t = none := fun t ht => I.hok.fresh (Nat.le_trans l0 (Nat.le_of_lt (g.above t ht)))
  have newS : H S = none := I.hok.fresh l0
  have on := putE_on as xs (upd H S (.lst (as.map V.ref))) 0 lx g.nd
  have off : ∀ b, b ∉ as → b ≠ S → putE (upd H S (.lst (as.map V.ref))) 0 as xs b = H b := fun b z1 z2 => by rw [putE_off as xs _ _ z1, upd_ne z2]
  have atS : putE (upd H S (.lst (as.map V.ref))) 0 as xs S = some (.lst (as.map V.ref)) := by rw [putE_off as xs _ _ nS, upd_same]
  generalize putE (upd H S (.lst (as.map V.ref))) 0 as xs = H' at on off atS
  have kp : ∀ b u, H b = some u → H' b = some u := fun b u q => by
    rw [off b (fun z => by rw [new b z] at q; cases q) (fun z => by rw [z, newS] at q; cases q)]
    exact q
  have low : ∀ b o, s.heap.get? b = some o → b ∉ as ∧ b ≠ S := fun b o q => ⟨fun z => absurd (Heap.lt_size q) (Nat.not_lt.mpr (Nat.le_trans l0 (Nat.le_of_lt (g.above b z)))), Nat.ne_of_lt (Nat.lt_of_lt_of_le (Heap.lt_size q) l0)⟩
  refine ⟨H', kp, newS, new, nS, g.nd, atS, ⟨lx, fun j t q => by simpa using on j t q⟩, ?_⟩
  refine I.call' (ch := []) rfl ⟨fun b o q _ _ _ => hk b o q, fun b o q _ _ _ => ⟨o.slots, hk b o q⟩, fun b o q n _ => ?_, fun b o q _ => ⟨o, hk b o q⟩, fun b ys q => kp b _ q, fun b o u q => kp b _ q, fun b ps q => ⟨#[], by rw [kp b _ q]; simp⟩⟩ (fun b u q => ?_) I.bare fun b z => by simp at z
  · obtain ⟨z1, z2⟩ := low b o q
    rw [off b z1 z2]
    exact n
  · by_cases hb : b ∈ as
    · obtain ⟨j, hj⟩ := List.mem_iff_getElem?.mp hb
      obtain ⟨x, x1, x2⟩ := on j b hj
      rw [x2] at q
      cases q
      obtain ⟨t, v, v1, v2⟩ := g.pairs j b hj
      obtain ⟨u', u1, u2⟩ := rv.get x1
      have ev : v = u' := by
        have q : its[j]? = some v := by simpa using v1
        rw [u1] at q
        exact (Option.some.inj q).symm
      subst ev
      refine ⟨by show 2 ≤ sizeLine; decide, [.int j t, v], .cons ⟨t, by simp⟩ (.cons u2 .nil), ⟨_, v2, rfl, _, rfl⟩⟩
    · by_cases hb2 : b = S
      · subst hb2
        rw [atS] at q
        cases q
        exact ⟨by rw [List.length_map]; omega, acc.toList, c, by rw [ac]; exact refs_vals as, by rw [Array.toArray_toList]; exact sh⟩
      · rw [off b hb hb2] at q
        exact (I.hok b u q).stay (fun d v _ y => hk d v y) (fun d y => kp d _ y) fun d ys y => kp d _ y
theorem nmem2 (m a : Nat) (q : a < m) : m + 1 ∉ [m, a] := by
  intro z
  rcases List.mem_cons.mp z with z | z
  · omega
  · have := List.mem_singleton.mp z; omega
theorem ltOf2 (m a b k : Nat) (q : a < m) (hk : k = m + 2) (z : b ∈ [m, a]) : b < k := by
  rcases List.mem_cons.mp z with z | z
  · omega
  · have := List.mem_singleton.mp z; omega
theorem no1 (m b : Nat) (q : b < m) (z : b = m + 1) : False := by omega
theorem le2 (m k : Nat) (q : k = m + 2) : m ≤ k := by omega
theorem ltk (m b k : Nat) (q : b < m) (h : k = m + 2) (z : b = k) : False := by omega
def rEnumL (K : PySem.W.Frag) : V → Hp → VK → Prop := fun x H Q => ∃ (a : Addr) (xs : List V), x = .ref a ∧ (SqL K H a xs ∨ SqT K H a xs) ∧
  ∀ (H' : Hp) (p : Addr) (ts : List Addr), (∀ b o, H b = some o → H' b = some o) → H p = none → (∀ t ∈ ts, H t = none) → p ∉ ts → ts.Nodup → H' p = some (.lst (ts.map V.ref)) → EnumT H' ts xs → Q (.ref p) H'
def tListEnum (K : PySem.W.Frag) (te : TE) : TE := fun σ H Q => te σ H fun x H1 => rEnumL K x H1 Q
variable {e : Expr} {te : TE} {p p2 pos pos2 : Pos}
theorem pe_listEnum (hc : X.calm = true) (he : PE X e te) (hg : Gl X "list") (hm : X.mg "list" = none) (hv : bootBuiltins "list" = some (.type "list")) (hg2 : Gl X "enumerate") (hm2 : X.mg "enumerate" = none)
    (hs : starEach [.Call (.Name "enumerate" p2) [e] [] pos2] X.env = [(false, eval (.Call (.Name "enumerate" p2) [e] [] pos2) X.env)] := by rfl) (hs2 : starEach [e] X.env = [(false, eval e X.env)] := by rfl) :
    PE X (.Call (.Name "list" p) [.Call (.Name "enumerate" p2) [e] [] pos2] [] pos) (tListEnum X.K te) := by
  refine ⟨fun pins s σ H Q I hq => ?_⟩
  refine wpAny_Call_Name_kw (ld_blt I hg hm hv ?_)
  refine PyProof.Rows.callWith_type1 ?_ hs rfl
  rw [hs]
  show wpAny _ _ (spliced ((false, eval (.Call (.Name "enumerate" p2) [e] [] pos2) X.env) :: backTo pos [])) _ _ s
  refine Calls.spliced_cons ?_
  refine Call_ (ld_blt I hg2 hm2 boot_enumerate ?_)
  refine PyProof.Rows.callWith_type1 ?_ hs2 rfl
  rw [hs2]
  show wpAny _ _ (spliced ((false, eval e X.env) :: backTo pos2 [])) _ _ s
  refine Calls.spliced_cons (thn (he.run pins s σ H _ I hq) fun u s1 ⟨x, H1, I1, rx, a, xs, ex, hsq, q⟩ => ?_)
  subst ex
  obtain rfl : u = Value.ref a := rx
  refine Calls.spliced_nil ?_
  have fin : ∀ (its : List Value) (h2 h3 : Heap) (tk c : Nat) (acc : Array Value) (as : List Addr) (St : Nat → Heap → Prop), Vals xs its → xs.length ≤ sizeLine → h2.objs.size = s1.heap.objs.size + 2 → (∀ b o, s1.heap.get? b = some o → h2.get? b = some o) →
      EnAt St (fun i v => its.toArray[i]? = some v) (s1.heap.objs.size + 1) s1.heap.objs.size h2.objs.size h2 h3 its.toArray.size acc c as → ∃ v H', Inv X pins σ H' { s1 with heap := h3, toks := tk } ∧ RelV v (.ref h2.objs.size) ∧ Q v H' := by
    intro its h2 h3 tk c acc as St rv hz z2 k2 z
    obtain ⟨H', k1, k3, k4, k5, k6, k7, k8, J⟩ := enums_laid (tk := tk) (S := h2.objs.size) I1 (le2 _ _ z2) hz rv (fun b o y => z.kp b o (fun w => ltk _ _ _ (Heap.lt_size y) z2 w) (fun w => no1 _ _ (Heap.lt_size y) w) (fun w => by rw [w] at y; exact Nat.lt_irrefl _ (Heap.lt_size y)) (k2 b o y)) z.sh z.ln z.gr z.ac
    exact ⟨.ref h2.objs.size, H', J, rfl, q H' _ as k1 k3 k4 k5 k6 k7 k8⟩
  have hh := I1.ok.hd hc
  rcases hsq with hsq | hsq
  · obtain ⟨its, rv, pl, hz⟩ := I1.list hsq
    have la : a < s1.heap.objs.size := pl.lt
    refine call_enumerate_list pl.isList fun h2 he hit z2 k2 => ?_
    refine Calls.spliced_nil ?_
    have D := Draws.list (prog := X.prog) (w := X.w) (A := X.A.in1.in1.in1) hh s1.heap.objs.size a (Nat.ne_of_lt la) its.toArray
    refine en_call (s := { s1 with heap := h2 }) (Nat.succ_ne_self _) (nmem2 _ _ la) (fun b hb => ltOf2 _ _ _ _ la z2 hb) (by simpa [← rv.length] using hz) D he ⟨hit, pl.isList.at fun o y => k2 a o y⟩ fun h3 tk acc c as z => ?_
    exact fin its h2 h3 tk c acc as _ rv hz z2 k2 z
  · obtain ⟨its, rv, pl, hz⟩ := I1.tuple hsq
    have la : a < s1.heap.objs.size := pl.lt
    refine gx_enum1 (begins_tuple a its.toArray) (show s1.heap.IsTuple a its.toArray from pl) fun h2 he hit z2 k2 => ?_
    refine Calls.spliced_nil ?_
    have D := Draws.tuple (prog := X.prog) (w := X.w) (A := X.A.in1.in1.in1) hh s1.heap.objs.size a (Nat.ne_of_lt la) its.toArray
    refine en_call (s := { s1 with heap := h2 }) (Nat.succ_ne_self _) (nmem2 _ _ la) (fun b hb => ltOf2 _ _ _ _ la z2 hb) (by simpa [← rv.length] using hz) D he ⟨⟨_, hit, rfl, rfl⟩, (show s1.heap.IsTuple a its.toArray from pl).at fun o y => k2 a o y⟩ fun h3 tk acc c as z => ?_
    exact fin its h2 h3 tk c acc as _ rv hz z2 k2 z
end
end GX

set_option Elab.async false
set_option linter.all false
set_option maxRecDepth 100000
set_option maxHeartbeats 4000000
namespace GX
open PySem PySem.Spec PyProof.Rows L2
section
variable {X : Cx}
/-- lcm(a, b) of numbers not too great -/
def rLcm : List V → Hp → VK → Prop := fun vs H Q => ∃ a b : Nat, vs = [.int (a : Nat), .int (b : Nat)] ∧ a < 1000000000 ∧ b < 1000000000 ∧ Q (.int ((Nat.lcm a b : Nat) : Int)) H
theorem cr_lcm : CallR X (.builtin "math.lcm") rLcm := by
  intro pins s σ H vs us Q I r h
  obtain ⟨a, b, rfl, h1, h2, q⟩ := h
  obtain ⟨t, u, rfl⟩ := Vals.int2 r
  exact PySem.W.mc_lcm (by rw [Int.natAbs_natCast]; omega) (by rw [Int.natAbs_natCast]; omega) fun _ => ⟨.int _, H, I.tok _, ⟨_, rfl⟩, by rw [Int.natAbs_natCast, Int.natAbs_natCast]; exact q⟩
/-- l[i], l a list, by values -/
theorem get_list : PGet X (fun o i H Q => ∃ p xs j x, o = .ref p ∧ i = .int ((j : Nat) : Int) ∧ SqL X.K H p xs ∧ xs[j]? = some x ∧ Q x H) := by
  intro pins s σ H o i ov iv Q I ro ri h
  obtain ⟨p, xs, j, x, rfl, rfl, hq, hx, q⟩ := h
  cases ro
  obtain ⟨t, rfl⟩ := ri
  obtain ⟨its, r, pl, hz⟩ := I.list hq
  obtain ⟨u, hu, ru⟩ := r.get hx
  have hn := line63
  have hl := r.length
  have hj : j < xs.length := (List.getElem?_eq_some_iff.mp hx).1
  exact PySem.wpAny_getItem_list pl.isList (by omega) (by omega) (by simpa using hu) ⟨x, H, I, ru, q⟩
def ipN (f : Nat → Nat → Nat) (c : Nat → Nat → Prop) : TIp := fun x y H Q => ∃ m n : Nat, x = .int (m : Nat) ∧ y = .int (n : Nat) ∧ c m n ∧ Q (.int ((f m n : Nat) : Int)) H
theorem ip_addN : PIp X .Add (ipN (fun m n => m + n) fun _ _ => True) := by
  intro pins s σ H x y v u Q I r1 r2 ⟨m, n, e1, e2, _, q⟩
  exact ip_add pins s σ H x y v u Q I r1 r2 ⟨_, _, e1, e2, by rw [Int.natCast_add] at q; exact q⟩
theorem ip_subN : PIp X .Sub (ipN (fun m n => m - n) fun m n => n ≤ m) := by
  intro pins s σ H x y v u Q I r1 r2 ⟨m, n, e1, e2, c, q⟩
  exact ip_sub pins s σ H x y v u Q I r1 r2 ⟨_, _, e1, e2, by rw [Int.natCast_sub c] at q; exact q⟩
theorem in_addN : InOp X .Add (fun x y H Q => ∃ m n : Nat, x = .int (m : Nat) ∧ y = .int (n : Nat) ∧ Q (.int ((m + n : Nat) : Int)) H) := by
  intro pins s σ H x y v u Q I r1 r2 ⟨m, n, e1, e2, q⟩
  exact in_add pins s σ H x y v u Q I r1 r2 ⟨_, _, e1, e2, by rw [Int.natCast_add] at q; exact q⟩
theorem hu_of {k : Nat} {A : Around} (r : Room k A) : A.units + 1 < cLine := by have := r.units; omega
end
end GX

set_option Elab.async false
set_option linter.all false
set_option maxRecDepth 100000
set_option maxHeartbeats 4000000
namespace K7
open PySem PySem.Spec PyProof.Rows L2 GX NdefX
theorem same_upd {H : Hp} {p : Addr} {o : HO} (h : H p = none) : Same H (upd H p o) := fun b x e => by
  rw [upd_ne (ne_of_none e h)]
  exact e
/-- a list or a tuple of ours -/
def Sq (H : Hp) (a : Addr) (xs : List V) : Prop := H a = some (.lst xs) ∨ H a = some (.tup xs)
theorem Sq.same {H H' : Hp} {a : Addr} {xs : List V} (s : Same H H') (h : Sq H a xs) : Sq H' a xs := h.elim (fun z => .inl (s _ _ z)) fun z => .inr (s _ _ z)
theorem sqL {K : PySem.W.Frag} {H : Hp} {a : Addr} {xs : List V} (h : H a = some (.lst xs)) : SqL K H a xs := .inl (.inl h)
theorem sqT {K : PySem.W.Frag} {H : Hp} {a : Addr} {xs : List V} (h : H a = some (.tup xs)) : SqT K H a xs := .inl (.inl h)
theorem Sq.lt {K : PySem.W.Frag} {H : Hp} {a : Addr} {xs : List V} (h : Sq H a xs) : SqL K H a xs ∨ SqT K H a xs := h.elim (fun z => .inl (sqL z)) fun z => .inr (sqT z)
theorem Sq.ty {K : PySem.W.Frag} {H : Hp} {a : Addr} {xs : List V} (h : Sq H a xs) : TyX K H (.ref a) (.type "list") ∨ TyX K H (.ref a) (.type "tuple") := h.elim (fun z => .inl (.base (.lst z))) fun z => .inr (.base (.tup z))
theorem new_ne {H : Hp} {a p : Addr} {o : HO} (h : H a = some o) (np : H p = none) : a ≠ p := ne_of_none h np
/-- a walk of a list or a tuple -/
def iSeq (K : PySem.W.Frag) (tl : TE) : TI := fun σ H R => tl σ H fun x H1 => ∃ a xs, x = .ref a ∧ ((SqL K H1 a xs ∧ R (Itl K a) H1) ∨ (SqT K H1 a xs ∧ R (Itt K a) H1))
theorem pi_seq {X : Cx} {tg l : Expr} {tl : TE} (hl : PE X l tl) : PI X tg l (iSeq X.K tl) := by
  refine ⟨fun pins s σ H R I h => ?_⟩
  refine thn (hl.run pins s σ H _ I h) fun v s1 ⟨x, H1, I1, r1, q1⟩ => ?_
  obtain ⟨a, xs, e, q⟩ := q1
  subst e
  cases r1
  rcases q with ⟨hq, q⟩ | ⟨hq, q⟩
  · obtain ⟨its, rv, p, hz⟩ := I1.list hq
    refine wpAny_pyIter_list p.isList ?_
    refine ⟨s1.heap.objs.size, [s1.heap.objs.size], _, _, H1, rfl, I1.kept (t' := s1.toks) fun b o e => Heap.get?_push_of_some _ e, turn_list a _, ⟨_, Heap.get?_push_size _ rfl, rfl, rfl⟩, fun b hb => ?_, q⟩
    have e : b = s1.heap.objs.size := by simpa using hb
    subst e
    exact I1.fpOk (Nat.le_refl _) (I1.hok.fresh (Nat.le_refl _))
  · obtain ⟨its, rv, p, hz⟩ := I1.tuple hq
    refine wpAny_pyIter_tuple (show s1.heap.IsTuple a its.toArray from p) ?_
    refine ⟨s1.heap.objs.size, [s1.heap.objs.size], _, _, H1, rfl, I1.kept (t' := s1.toks) fun b o e => Heap.get?_push_of_some _ e, turn_tuple a _, ⟨_, Heap.get?_push_size _ rfl, rfl, rfl⟩, fun b hb => ?_, q⟩
    have e : b = s1.heap.objs.size := by simpa using hb
    subst e
    exact I1.fpOk (Nat.le_refl _) (I1.hok.fresh (Nat.le_refl _))
def wholeV (l m : Int) : V → Bool
  | .int i => decide (l ≤ i) && decide (i ≤ m)
  | _ => false
def Scal (x : V) : Prop := x = .non ∨ (∃ i, x = .int i) ∨ ∃ z, x = .str z
theorem lcGen {J : It} {n : Nat} {g : TG} {tt : TT} {te : TE} {vs : List Nat} {σ : L2.St} {H1 : Hp} {D : Addr} {Qd : Hp → Prop} (keep : Nat → Bool) (vals : Nat → V) (nD : H1 D = none) (hn : n ≤ 4000)
    (go : ∀ i H, i < n → Same H1 H → J.go i H) (stop : ∀ H, Same H1 H → J.stop n H)
    (turn : ∀ i x H H' (Qk : VK) (Qn : Hp → Prop), i < n → Same H1 H → J.yld i H x H' → (∀ H4, Same H H4 → keep i = true → Qk (vals i) H4) → (∀ H4, Same H H4 → keep i = false → Qn H4) →
      g x (wipe σ vs) H' fun σ2 H2 => wipe σ2 vs = wipe σ vs ∧ tt σ2 H2 fun b H3 => if b = true then te σ2 H3 Qk else Qn H3)
    (done : ∀ H, Same H1 H → H D = some (.lst (((List.range n).filter keep).map vals)) → Qd H) :
    ∃ W : Nat → Nat → Hp → Prop, (∃ m, W 0 m (upd H1 D (.lst []))) ∧ ∀ i m H, W i m H →
      (J.stop i H ∧ Qd H) ∨ (J.go i H ∧ ∃ Nx : Hp → Prop, (∀ H', Nx H' → ∃ m', m' < m ∧ W (i + 1) m' H') ∧ ∀ x H', J.yld i H x H' → g x (wipe σ vs) H' fun σ2 H2 => wipe σ2 vs = wipe σ vs ∧ tt σ2 H2 fun b H3 =>
        if b = true then te σ2 H3 fun y H4 => ∃ acc, H4 D = some (.lst acc) ∧ acc.length < sizeLine ∧ Nx (upd H4 D (.lst (acc ++ [y]))) else Nx H3) := by
  refine ⟨fun i m H => m = n - i ∧ i ≤ n ∧ Same H1 H ∧ H D = some (.lst (((List.range i).filter keep).map vals)), ⟨n, rfl, Nat.zero_le _, same_upd nD, upd_same⟩, ?_⟩
  rintro i m H ⟨rfl, hi, sm, eD⟩
  by_cases hlt : i < n
  · refine .inr ⟨go i H hlt sm, fun H' => Same H1 H' ∧ H' D = some (.lst (((List.range (i + 1)).filter keep).map vals)), fun H' p => ⟨n - (i + 1), by omega, rfl, hlt, p.1, p.2⟩, fun x H' y => ?_⟩
    refine turn i x H H' _ _ hlt sm y (fun H4 s4 hk => ⟨_, s4 _ _ eD, ?_, ?_, ?_⟩) (fun H4 s4 hk => ⟨sm.trans s4, ?_⟩)
    · rw [List.length_map]
      have h1 := List.length_filter_le keep (List.range i)
      rw [List.length_range] at h1
      rw [sizeLine_eq]
      omega
    · exact fun b o e => by
        rw [upd_ne (ne_of_none e nD)]
        exact s4 _ _ (sm _ _ e)
    · rw [upd_same, List.range_succ, List.filter_append, List.map_append]
      simp [hk]
    · rw [s4 _ _ eD, List.range_succ, List.filter_append, List.map_append]
      simp [hk]
  · have e : i = n := by omega
    subst e
    exact .inl ⟨stop H sm, done H sm eD⟩
theorem lcMap {J : It} {n : Nat} {g : TG} {te : TE} {vs : List Nat} {σ : L2.St} {H1 : Hp} {D : Addr} {Qd : Hp → Prop} (vals : Nat → V) (nD : H1 D = none) (hn : n ≤ 4000)
    (go : ∀ i H, i < n → Same H1 H → J.go i H) (stop : ∀ H, Same H1 H → J.stop n H)
    (turn : ∀ i x H H' (Qk : VK) (Qn : Hp → Prop), i < n → Same H1 H → J.yld i H x H' → (∀ H4, Same H H4 → Qk (vals i) H4) → g x (wipe σ vs) H' fun σ2 H2 => wipe σ2 vs = wipe σ vs ∧ tYes σ2 H2 fun b H3 => if b = true then te σ2 H3 Qk else Qn H3)
    (done : ∀ H, Same H1 H → H D = some (.lst ((List.range n).map vals)) → Qd H) :
    ∃ W : Nat → Nat → Hp → Prop, (∃ m, W 0 m (upd H1 D (.lst []))) ∧ ∀ i m H, W i m H →
      (J.stop i H ∧ Qd H) ∨ (J.go i H ∧ ∃ Nx : Hp → Prop, (∀ H', Nx H' → ∃ m', m' < m ∧ W (i + 1) m' H') ∧ ∀ x H', J.yld i H x H' → g x (wipe σ vs) H' fun σ2 H2 => wipe σ2 vs = wipe σ vs ∧ tYes σ2 H2 fun b H3 =>
        if b = true then te σ2 H3 fun y H4 => ∃ acc, H4 D = some (.lst acc) ∧ acc.length < sizeLine ∧ Nx (upd H4 D (.lst (acc ++ [y]))) else Nx H3) :=
  lcGen (tt := tYes) (fun _ => true) vals nD hn go stop (fun i x H H' Qk Qn h1 h2 h3 h4 _ => turn i x H H' Qk Qn h1 h2 h3 fun H4 s4 => h4 H4 s4 rfl)
    (fun H s e => done H s (by rw [e, List.filter_eq_self.mpr (fun _ _ => rfl)]))
def LcR (J : It) (g : TG) (tt : TT) (te : TE) (vs : List Nat) (σ : L2.St) (H1 : Hp) (Q : VK) : Prop := ∀ D, H1 D = none → ∃ W : Nat → Nat → Hp → Prop, (∃ m, W 0 m (upd H1 D (.lst []))) ∧ ∀ i m H, W i m H →
  (J.stop i H ∧ Q (.ref D) H) ∨ (J.go i H ∧ ∃ Nx : Hp → Prop, (∀ H', Nx H' → ∃ m', m' < m ∧ W (i + 1) m' H') ∧ ∀ x H', J.yld i H x H' → g x (wipe σ vs) H' fun σ2 H2 => wipe σ2 vs = wipe σ vs ∧ tt σ2 H2 fun b H3 =>
    if b = true then te σ2 H3 fun y H4 => ∃ acc, H4 D = some (.lst acc) ∧ acc.length < sizeLine ∧ Nx (upd H4 D (.lst (acc ++ [y]))) else Nx H3)
theorem map_getD {α : Type} (f : V → α) (d : V) : ∀ xs : List V, (List.range xs.length).map (fun i => f (xs.getD i d)) = xs.map f
  | [] => rfl
  | x :: r => by
    rw [List.length_cons, List.range_succ_eq_map, List.map_cons, List.map_map, List.map_cons]
    exact congrArg (f x :: ·) (map_getD f d r)
theorem lcSeq {K : PySem.W.Frag} {a : Addr} {xs : List V} {g : TG} {te : TE} {vs : List Nat} {σ : L2.St} {H1 : Hp} {Q : VK} (vals : V → V) (hq : Sq H1 a xs) (hn : xs.length ≤ 4000)
    (turn : ∀ (i : Nat) (x : V) (H : Hp) (Qk : VK) (Qn : Hp → Prop), xs[i]? = some x → Same H1 H → (∀ H4, Same H H4 → Qk (vals x) H4) → g x (wipe σ vs) H fun σ2 H2 => wipe σ2 vs = wipe σ vs ∧ tYes σ2 H2 fun b H3 => if b = true then te σ2 H3 Qk else Qn H3)
    (done : ∀ D H, H1 D = none → Same H1 H → H D = some (.lst (xs.map vals)) → Q (.ref D) H) :
    (SqL K H1 a xs ∧ LcR (Itl K a) g tYes te vs σ H1 Q) ∨ (SqT K H1 a xs ∧ LcR (Itt K a) g tYes te vs σ H1 Q) := by
  have gd : ∀ {i : Nat} {x : V}, xs[i]? = some x → xs.getD i .non = x := fun {i x} h => by
    rw [List.getD_eq_getElem?_getD, h]
    rfl
  rcases hq with hq | hq
  · refine .inl ⟨sqL hq, fun D nD => lcMap (n := xs.length) (fun i => vals (xs.getD i .non)) nD hn (fun i H h s => ⟨xs, xs[i], sqL (s _ _ hq), List.getElem?_eq_getElem h⟩) (fun H s => ⟨xs, sqL (s _ _ hq), Nat.le_refl _⟩)
      (fun i x H H' Qk Qn h s y hk => ?_) (fun H s e => done D H nD s (by rw [e, map_getD]))⟩
    obtain ⟨rfl, y⟩ := y
    have hx := y xs (sqL (s _ _ hq))
    exact turn i x _ Qk Qn hx s fun H4 s4 => by
      have z := hk H4 s4
      rw [gd hx] at z
      exact z
  · refine .inr ⟨sqT hq, fun D nD => lcMap (n := xs.length) (fun i => vals (xs.getD i .non)) nD hn (fun i H h s => ⟨xs, xs[i], sqT (s _ _ hq), List.getElem?_eq_getElem h⟩) (fun H s => ⟨xs, sqT (s _ _ hq), Nat.le_refl _⟩)
      (fun i x H H' Qk Qn h s y hk => ?_) (fun H s e => done D H nD s (by rw [e, map_getD]))⟩
    obtain ⟨rfl, y⟩ := y
    have hx := y xs (sqT (s _ _ hq))
    exact turn i x _ Qk Qn hx s fun H4 s4 => by
      have z := hk H4 s4
      rw [gd hx] at z
      exact z
theorem PE.imp {X : Cx} {e : Expr} {t t' : TE} (h : PE X e t) (i : ∀ σ H Q, t' σ H Q → t σ H Q) : PE X e t' := ⟨fun pins s σ H Q I q => h.run pins s σ H Q I (i σ H Q q)⟩
theorem PS.imp {X : Cx} {e : Stmt} {t t' : TS} (h : PS X e t) (i : ∀ D σ H, t' D σ H → t D σ H) : PS X e t' := ⟨fun pins s σ H D I q => h.run pins s σ H D I (i D σ H q)⟩
theorem wipe1 (σ : L2.St) (c : Nat) (x : V) : (wipe σ [c]).set c (some x) = σ.set c (some x) := by
  show (σ.set c none).set c (some x) = _
  rw [List.set_set]
theorem wipe2 (σ : L2.St) (c : Nat) (x : V) : wipe (σ.set c (some x)) [c] = wipe σ [c] := by
  show (σ.set c (some x)).set c none = σ.set c none
  rw [List.set_set]
def tMapSeq (j c : Nat) (te : TE) : TE := fun σ H Q => ∃ (a : Addr) (xs : List V) (vals : V → V), σ[j]? = some (some (.ref a)) ∧ Sq H a xs ∧ xs.length ≤ 4000 ∧
  (∀ (i : Nat) (x : V) (H2 : Hp) (Qk : VK), xs[i]? = some x → Same H H2 → (∀ H4, Same H2 H4 → Qk (vals x) H4) → te (σ.set c (some x)) H2 Qk) ∧
  ∀ D H', H D = none → Same H H' → H' D = some (.lst (xs.map vals)) → Q (.ref D) H'
theorem tMapSeq_ok {K : PySem.W.Frag} {j c : Nat} {te : TE} {σ : L2.St} {H : Hp} {Q : VK} (h : tMapSeq j c te σ H Q) : tLc (iSeq K (tVar j)) (gName c) tYes te [c] σ H Q := by
  obtain ⟨a, xs, vals, hj, hq, hn, turn, done⟩ := h
  refine ⟨.ref a, hj, a, xs, rfl, lcSeq (g := gName c) (te := te) (vs := [c]) (σ := σ) (Q := Q) vals hq hn (fun i x H2 Qk Qn hx s hk => ?_) done⟩
  show wipe ((wipe σ [c]).set c (some x)) [c] = wipe σ [c] ∧ (if true = true then te ((wipe σ [c]).set c (some x)) H2 Qk else Qn H2)
  rw [wipe1, wipe2]
  exact ⟨rfl, iteT (turn i x H2 Qk hx s hk)⟩
theorem getD_of {xs : List V} {i : Nat} {x d : V} (h : xs[i]? = some x) : xs.getD i d = x := by
  rw [List.getD_eq_getElem?_getD, h]
  rfl
theorem dpInts {K : PySem.W.Frag} {H : Hp} : ∀ ns : List Int, DpAll K H (ns.map V.int) (ns.map PyData.int)
  | [] => .nil
  | i :: r => .cons (.int i) (dpInts r)
theorem canInts : ∀ ns : List Int, PyData.canLayAll0 (ns.map PyData.int) = true
  | [] => rfl
  | i :: r => by
    show (PyData.canLay0 (.int i) && PyData.canLayAll0 (r.map PyData.int)) = true
    rw [canInts r]
    rfl
theorem depInts : ∀ ns : List Int, PyData.depthAll (ns.map PyData.int) = 0
  | [] => rfl
  | i :: r => by
    show max 0 (PyData.depthAll (r.map PyData.int)) = 0
    rw [depInts r]
    rfl
theorem eqvInts : ∀ xs ys : List Int, PyData.eqvAll (xs.map PyData.int) (ys.map PyData.int) = decide (xs = ys)
  | [], [] => by simp [PyData.eqvAll]
  | [], _ :: _ => by simp [PyData.eqvAll]
  | _ :: _, [] => by simp [PyData.eqvAll]
  | x :: xs, y :: ys => by
    rw [List.map_cons, List.map_cons, PyData.eqvAll, eqvInts xs ys, PyData.eqv]
    by_cases h : x = y
    · subst h
      by_cases h2 : xs = ys <;> simp [h2]
    · simp [h]
theorem cut1 (xs : List V) : cutV xs (some 1) none = xs.tail := by
  unfold cutV
  rw [show (some (1 : Int)) = some ((1 : Nat) : Int) from rfl, HT.sIx_nat]
  show List.take (xs.length - min 1 xs.length) (List.drop (min 1 xs.length) xs) = _
  cases xs with
  | nil => rfl
  | cons x r =>
    rw [show min 1 (x :: r).length = 1 by rw [List.length_cons]; omega]
    show List.take (r.length + 1 - 1) r = r
    rw [List.take_of_length_le (by omega)]
theorem lenApp (a b : Str) : (a ++ b).length = a.length + b.length := Array.size_append
def Rai (E : XK) (C : Addr) (H : Hp) (fs : List (Str × V)) : Prop := ∀ d H', Same H H' → H' d = some (.xd fs) → E (.ref C) (some d) H'
theorem Rai.same {E : XK} {C : Addr} {H H1 : Hp} {fs : List (Str × V)} (h : Rai E C H fs) (s : Same H H1) : Rai E C H1 fs := fun d H' s' e => h d H' (s.trans s') e
theorem xsame {H1 : Hp} {a dx : Addr} {H2 : Hp} {o : HO} (na : H1 a = none) (nd : H1 dx = none) (k : ∀ b, b ≠ a → b ≠ dx → H2 b = H1 b) : Same H1 (upd (del H2 a) dx o) := fun b x e => by
  have h1 := ne_of_none e na
  have h2 := ne_of_none e nd
  rw [upd_ne h2, del_ne h1, k b h1 h2]
  exact e
def ForR (J : It) (g : TG) (tb : TS) (D : Ends) (σ : L2.St) (H : Hp) : Prop := ∃ W : Nat → Nat → L2.St → Hp → Prop, (∃ m, W 0 m σ H) ∧ ∀ i m σ H, W i m σ H →
  (J.stop i H ∧ D.nx σ H) ∨ (J.go i H ∧ ∃ N : L2.St → Hp → Prop, (∀ σ' H', N σ' H' → ∃ m', m' < m ∧ W (i + 1) m' σ' H') ∧ ∀ x H', J.yld i H x H' → g x σ H' fun σ2 H2 => tb { nx := N, rt := D.rt, bk := D.nx, ct := N } σ2 H2)
theorem forGen {J : It} {n : Nat} {g : TG} {tb : TS} {D : Ends} {σ : L2.St} {H : Hp} (Pv : Nat → L2.St → Hp → Prop) (h0 : Pv 0 σ H) (go : ∀ i σ H, i < n → Pv i σ H → J.go i H) (stop : ∀ σ H, Pv n σ H → J.stop n H)
    (turn : ∀ i x σ H H', i < n → Pv i σ H → J.yld i H x H' → g x σ H' fun σ2 H2 => tb { nx := Pv (i + 1), rt := D.rt, bk := D.nx, ct := Pv (i + 1) } σ2 H2) (done : ∀ σ H, Pv n σ H → D.nx σ H) : ForR J g tb D σ H := by
  refine ⟨fun i m σ H => m = n - i ∧ i ≤ n ∧ Pv i σ H, ⟨n, rfl, Nat.zero_le _, h0⟩, ?_⟩
  rintro i m σ H ⟨rfl, hi, p⟩
  by_cases hlt : i < n
  · exact .inr ⟨go i σ H hlt p, Pv (i + 1), fun σ' H' q => ⟨n - (i + 1), by omega, rfl, hlt, q⟩, fun x H' y => turn i x σ H H' hlt p y⟩
  · have e : i = n := by omega
    subst e
    exact .inl ⟨stop σ H p, done σ H p⟩
theorem forEnum {K : PySem.W.Frag} {a : Addr} {xs : List V} {g : TG} {tb : TS} {D : Ends} {σ : L2.St} {H : Hp} (Pv : Nat → L2.St → Hp → Prop) (hq : Sq H a xs) (h0 : Pv 0 σ H) (hl : ∀ i σ H' o, Pv i σ H' → H a = some o → H' a = some o)
    (turn : ∀ i x T σ H, xs[i]? = some x → Pv i σ H → H T = none → g (.ref T) σ (upd H T (.tup [.int (i : Nat), x])) fun σ2 H2 => tb { nx := Pv (i + 1), rt := D.rt, bk := D.nx, ct := Pv (i + 1) } σ2 H2) (done : ∀ σ H, Pv xs.length σ H → D.nx σ H) :
    (SqL K H a xs ∧ ForR (Ite K a) g tb D σ H) ∨ (SqT K H a xs ∧ ForR (IteT K a) g tb D σ H) := by
  rcases hq with hq | hq
  · refine .inl ⟨sqL hq, forGen (n := xs.length) Pv h0 (fun i σ H h p => ⟨xs, xs[i], sqL (hl _ _ _ _ p hq), List.getElem?_eq_getElem h⟩) (fun σ H p => ⟨xs, sqL (hl _ _ _ _ p hq), Nat.le_refl _⟩) (fun i x σ H H' hi p y => ?_) done⟩
    obtain ⟨T, x, rfl, nT, rfl, hx⟩ := y
    exact turn i x T σ H (hx xs (sqL (hl _ _ _ _ p hq))) p nT
  · refine .inr ⟨sqT hq, forGen (n := xs.length) Pv h0 (fun i σ H h p => ⟨xs, xs[i], sqT (hl _ _ _ _ p hq), List.getElem?_eq_getElem h⟩) (fun σ H p => ⟨xs, sqT (hl _ _ _ _ p hq), rfl⟩) (fun i x σ H H' hi p y => ?_) done⟩
    obtain ⟨T, x, rfl, nT, rfl, hx⟩ := y
    exact turn i x T σ H (hx xs (sqT (hl _ _ _ _ p hq))) p nT
theorem paired_get {α β : Type} {F : α → β → Prop} {xs : List α} {ys : List β} (p : Paired F xs ys) : ∀ {i : Nat} {x : α}, xs[i]? = some x → ∃ y, ys[i]? = some y ∧ F x y := by
  induction p with
  | nil => intro i x h; simp at h
  | cons f r ih =>
    intro i x h
    cases i with
    | zero =>
      simp at h
      subst h
      exact ⟨_, rfl, f⟩
    | succ i => exact ih h
theorem paired_imp {α β : Type} {F G : α → β → Prop} (k : ∀ x y, F x y → G x y) : ∀ {xs : List α} {ys : List β}, Paired F xs ys → Paired G xs ys
  | _, _, .nil => .nil
  | _, _, .cons f r => .cons (k _ _ f) (paired_imp k r)
theorem drop_get {α : Type} {xs : List α} {i : Nat} {x : α} (h : xs[i]? = some x) : xs.drop i = x :: xs.drop (i + 1) := by
  obtain ⟨hi, rfl⟩ := List.getElem?_eq_some_iff.mp h
  exact List.drop_eq_getElem_cons hi
theorem take_get {α : Type} {xs : List α} {i : Nat} {x : α} (h : xs[i]? = some x) : xs.take (i + 1) = xs.take i ++ [x] := by
  rw [List.take_succ, h]
  rfl
def nts (ns : List Nat) : List V := ns.map fun (n : Nat) => V.int (n : Int)
theorem nts_len (l : List Nat) : (nts l).length = l.length := List.length_map _
def PairsAt (H : Hp) (ts : List V) (ps : List (Nat × Nat)) : Prop := Paired (fun t (p : Nat × Nat) => ∃ T, t = .ref T ∧ H T = some (.tup [.int (p.1 : Nat), .int (p.2 : Nat)])) ts ps
theorem PairsAt.same {H H' : Hp} {ts : List V} {ps : List (Nat × Nat)} (h : PairsAt H ts ps) (s : Same H H') : PairsAt H' ts ps := paired_imp (fun _ _ ⟨T, e, h⟩ => ⟨T, e, s _ _ h⟩) h
theorem paired_snoc {α β : Type} {F : α → β → Prop} {xs : List α} {ys : List β} {x : α} {y : β} (p : Paired F xs ys) (f : F x y) : Paired F (xs ++ [x]) (ys ++ [y]) := by
  induction p with
  | nil => exact .cons f .nil
  | cons g r ih => exact .cons g ih
def leP (p q : Nat × Nat) : Bool := decide (p.1 < q.1 ∨ (p.1 = q.1 ∧ p.2 ≤ q.2))
def sortP (l : List (Nat × Nat)) : List (Nat × Nat) := l.mergeSort leP
theorem leP_trans (a b c : Nat × Nat) (h1 : leP a b = true) (h2 : leP b c = true) : leP a c = true := by
  unfold leP at *
  rw [decide_eq_true_iff] at *
  omega
theorem leP_total (a b : Nat × Nat) : (leP a b || leP b a) = true := by
  unfold leP
  rw [Bool.or_eq_true, decide_eq_true_iff, decide_eq_true_iff]
  omega
theorem leP_anti {a b : Nat × Nat} (h1 : leP a b = true) (h2 : leP b a = true) : a = b := by
  unfold leP at *
  rw [decide_eq_true_iff] at *
  exact Prod.ext (by omega) (by omega)
theorem sortP_perm (l : List (Nat × Nat)) : (sortP l).Perm l := List.mergeSort_perm l leP
theorem sortP_sorted (l : List (Nat × Nat)) : (sortP l).Pairwise fun a b => leP a b = true := List.pairwise_mergeSort leP_trans leP_total l
theorem sortP_eq {l m : List (Nat × Nat)} (p : m.Perm l) (s : m.Pairwise fun a b => leP a b = true) : m = sortP l :=
  List.Perm.eq_of_pairwise (fun a b _ _ h1 h2 => leP_anti h1 h2) s (sortP_sorted l) (p.trans (sortP_perm l).symm)
def kOf (H : Hp) : V → Int × Int
  | .ref T => match H T with
    | some (.tup [.int i, .int j]) => (i, j)
    | _ => (0, 0)
  | _ => (0, 0)
def kNat (H : Hp) (x : V) : Nat × Nat := ((kOf H x).1.toNat, (kOf H x).2.toNat)
theorem kOf_pair {H : Hp} {T : Addr} {i j : Int} (h : H T = some (.tup [.int i, .int j])) : kOf H (.ref T) = (i, j) := by
  simp only [kOf, h]
theorem pairs_map {H : Hp} {ts : List V} {ps : List (Nat × Nat)} (p : PairsAt H ts ps) : ps = ts.map (kNat H) := by
  induction p with
  | nil => rfl
  | cons f r ih =>
    obtain ⟨T, rfl, h⟩ := f
    rw [List.map_cons, ← ih]
    refine congrArg (· :: _) ?_
    unfold kNat
    rw [kOf_pair h]
    rfl
theorem pairs_mem {H : Hp} {ts : List V} {ps : List (Nat × Nat)} (p : PairsAt H ts ps) : ∀ x ∈ ts, ∃ T, x = .ref T ∧ H T = some (.tup [.int ((kNat H x).1 : Nat), .int ((kNat H x).2 : Nat)]) := by
  induction p with
  | nil => exact fun x h => absurd h (by simp)
  | cons f r ih =>
    intro x hx
    rcases List.mem_cons.mp hx with e | hx
    · obtain ⟨T, e2, h⟩ := f
      subst e2
      subst e
      refine ⟨T, rfl, ?_⟩
      unfold kNat
      rw [kOf_pair h]
      exact h
    · exact ih x hx
theorem paired_self {α β : Type} {F : α → β → Prop} {f : α → β} : ∀ {xs : List α}, (∀ x ∈ xs, F x (f x)) → Paired F xs (xs.map f)
  | [], _ => .nil
  | x :: r, h => .cons (h x List.mem_cons_self) (paired_self fun y hy => h y (List.mem_cons_of_mem _ hy))
theorem sorted_pairs {H : Hp} {xs ys : List V} {ps : List (Nat × Nat)} (p : PairsAt H xs ps) (st : SrtO.Srtd (ltP (kOf H)) ys) (sb : SrtO.Stb (ltP (kOf H)) ys xs) : PairsAt H ys (sortP ps) := by
  have hm := pairs_mem p
  have hy : ∀ y ∈ ys, ∃ T, y = .ref T ∧ H T = some (.tup [.int ((kNat H y).1 : Nat), .int ((kNat H y).2 : Nat)]) := fun y h => hm y (sb.perm.mem_iff.mp h)
  have e : ys.map (kNat H) = sortP ps := by
    refine sortP_eq ?_ ?_
    · rw [pairs_map p]
      exact sb.perm.map _
    · rw [List.pairwise_map]
      refine (List.Pairwise.and_mem.mp st).imp fun h => ?_
      obtain ⟨ha, hb, hlt⟩ := h
      obtain ⟨T, rfl, h1⟩ := hy _ ha
      obtain ⟨U, rfl, h2⟩ := hy _ hb
      have h1 := kOf_pair h1
      have h2 := kOf_pair h2
      unfold ltP SrtO.lexB at hlt
      rw [h1, h2] at hlt
      unfold leP
      rw [decide_eq_true_iff]
      simp at hlt
      split at hlt <;> omega
  rw [← e]
  exact paired_self hy
theorem rIx_sq {K : PySem.W.Frag} {H : Hp} {a : Addr} {xs : List V} {i : Nat} {k : Int} {x : V} {Q : VK} (h : Sq H a xs) (hk : k = (i : Int)) (hx : xs[i]? = some x) (q : Q x H) : rIx K (.ref a) (.int k) H Q := by
  subst hk
  rcases h with h | h
  · exact .inl ⟨a, xs, _, x, rfl, rfl, sqL h, atI_nat hx, q⟩
  · exact .inr (.inl ⟨a, xs, _, x, rfl, rfl, sqT h, atI_nat hx, q⟩)
theorem iteFq {b : Bool} {A B : Prop} (h : b = false) (x : B) : if b = true then A else B := by
  subst h
  exact x
theorem iteTq {b : Bool} {A B : Prop} (h : b = true) (x : A) : if b = true then A else B := by
  subst h
  exact x
theorem forSeq {K : PySem.W.Frag} {a : Addr} {xs : List V} {g : TG} {tb : TS} {D : Ends} {σ : L2.St} {H : Hp} (Pv : Nat → L2.St → Hp → Prop) (hq : Sq H a xs) (h0 : Pv 0 σ H) (hl : ∀ i σ H' o, Pv i σ H' → H a = some o → H' a = some o)
    (turn : ∀ i x σ H, xs[i]? = some x → Pv i σ H → g x σ H fun σ2 H2 => tb { nx := Pv (i + 1), rt := D.rt, bk := D.nx, ct := Pv (i + 1) } σ2 H2) (done : ∀ σ H, Pv xs.length σ H → D.nx σ H) :
    (SqL K H a xs ∧ ForR (Itl K a) g tb D σ H) ∨ (SqT K H a xs ∧ ForR (Itt K a) g tb D σ H) := by
  rcases hq with hq | hq
  · exact .inl ⟨sqL hq, for_list (K := K) (xs := xs) Pv h0 (fun i σ H' _ p => sqL (hl _ _ _ _ p hq)) turn done⟩
  · exact .inr ⟨sqT hq, for_tup (K := K) (xs := xs) Pv h0 (fun i σ H' _ p => sqT (hl _ _ _ _ p hq)) turn done⟩
theorem lenV_sq {K : PySem.W.Frag} {H : Hp} {a : Addr} {xs : List V} {n : Nat} (h : Sq H a xs) (e : xs.length = n) : LenV K (.ref a) H n := h.elim (fun z => .inl ⟨_, sqL z, e.symm⟩) fun z => .inr ⟨_, sqT z, e.symm⟩
theorem none_of_same {H H' : Hp} {l : Addr} (s : Same H H') (n : H' l = none) : H l = none := by
  cases e : H l with
  | none => rfl
  | some o =>
    rw [s _ _ e] at n
    cases n
theorem range_map_get {α : Type} (l : List α) (d : α) : (List.range l.length).map (fun i => l.getD i d) = l := by
  refine List.ext_getElem (by rw [List.length_map, List.length_range]) fun i h1 h2 => ?_
  rw [List.getElem_map, List.getElem_range, List.getD_eq_getElem?_getD, List.getElem?_eq_getElem h2]
  rfl
theorem getD_at {α : Type} {l : List α} {i : Nat} {x d : α} (h : l[i]? = some x) : l.getD i d = x := by
  rw [List.getD_eq_getElem?_getD, h]
  rfl
def TupT (H : Hp) (x : V) (vs : List V) : Prop := ∃ a, x = .ref a ∧ H a = some (.tup vs)
theorem TupT.same {H H' : Hp} {x : V} {vs : List V} (s : Same H H') (h : TupT H x vs) : TupT H' x vs := by
  obtain ⟨a, e, q⟩ := h
  exact ⟨a, e, s _ _ q⟩
def TupsT (H : Hp) (ts : List V) (ls : List (List V)) : Prop := Paired (TupT H) ts ls
theorem TupsT.same {H H' : Hp} {ts : List V} {ls : List (List V)} (s : Same H H') (h : TupsT H ts ls) : TupsT H' ts ls := paired_imp (fun _ _ h => h.same s) h
theorem tups_upd {H : Hp} {D : Addr} {o : HO} {ts us : List V} {l : List (List V)} (eD : H D = some (.lst us)) (p : TupsT H ts l) : TupsT (upd H D o) ts l := paired_imp (fun x c ⟨a, e, h⟩ => ⟨a, e, by rw [upd_ne (fun z => by rw [z, eD] at h; cases h)]; exact h⟩) p
theorem tup_upd {H : Hp} {D : Addr} {o : HO} {x : V} {us c : List V} (eD : H D = some (.lst us)) (p : TupT H x c) : TupT (upd H D o) x c := by
  obtain ⟨a, e, h⟩ := p
  exact ⟨a, e, by rw [upd_ne (fun z => by rw [z, eD] at h; cases h)]; exact h⟩
theorem lcTupK {J : It} {n : Nat} {g : TG} {tt : TT} {te : TE} {vs : List Nat} {σ : L2.St} {H1 : Hp} {D : Addr} {Qd : Hp → Prop} (keep : Nat → Bool) (cs : Nat → List V) (nD : H1 D = none) (hn : n ≤ 4000) (go : ∀ i H, i < n → Same H1 H → J.go i H) (stop : ∀ H, Same H1 H → J.stop n H)
    (turn : ∀ i x H H' (Qk : VK) (Qn : Hp → Prop), i < n → Same H1 H → J.yld i H x H' → (∀ y H4, keep i = true → TupT H4 y (cs i) → Same H H4 → Qk y H4) → (∀ H4, keep i = false → Same H H4 → Qn H4) → g x (wipe σ vs) H' fun σ2 H2 => wipe σ2 vs = wipe σ vs ∧ tt σ2 H2 fun b H3 => if b = true then te σ2 H3 Qk else Qn H3)
    (done : ∀ H ts, Same H1 H → H D = some (.lst ts) → TupsT H ts (((List.range n).filter keep).map cs) → Qd H) :
    ∃ W : Nat → Nat → Hp → Prop, (∃ m, W 0 m (upd H1 D (.lst []))) ∧ ∀ i m H, W i m H →
      (J.stop i H ∧ Qd H) ∨ (J.go i H ∧ ∃ Nx : Hp → Prop, (∀ H', Nx H' → ∃ m', m' < m ∧ W (i + 1) m' H') ∧ ∀ x H', J.yld i H x H' → g x (wipe σ vs) H' fun σ2 H2 => wipe σ2 vs = wipe σ vs ∧ tt σ2 H2 fun b H3 =>
        if b = true then te σ2 H3 fun y H4 => ∃ acc, H4 D = some (.lst acc) ∧ acc.length < sizeLine ∧ Nx (upd H4 D (.lst (acc ++ [y]))) else Nx H3) := by
  refine ⟨fun i m H => m = n - i ∧ i ≤ n ∧ Same H1 H ∧ ∃ ts, H D = some (.lst ts) ∧ TupsT H ts (((List.range i).filter keep).map cs), ⟨n, rfl, Nat.zero_le _, same_upd nD, [], upd_same, .nil⟩, ?_⟩
  rintro i m H ⟨rfl, hi, sm, ts, eD, pt⟩
  by_cases hlt : i < n
  · refine .inr ⟨go i H hlt sm, fun H' => Same H1 H' ∧ ∃ ts, H' D = some (.lst ts) ∧ TupsT H' ts (((List.range (i + 1)).filter keep).map cs), fun H' p => ⟨n - (i + 1), by omega, rfl, hlt, p.1, p.2⟩, fun x H' y => ?_⟩
    refine turn i x H H' _ _ hlt sm y (fun y H4 hk eT s4 => ⟨ts, s4 _ _ eD, ?_, fun b o e => ?_, _, upd_same, ?_⟩) (fun H4 hk s4 => ⟨sm.trans s4, ts, s4 _ _ eD, ?_⟩)
    · have h1 := pt.length
      have h2 := List.length_filter_le keep (List.range i)
      rw [List.length_map] at h1
      rw [List.length_range] at h2
      rw [sizeLine_eq]
      omega
    · rw [upd_ne (ne_of_none e nD)]
      exact s4 _ _ (sm _ _ e)
    · rw [List.range_succ, List.filter_append, List.filter_cons_of_pos hk, List.map_append]
      exact paired_snoc (tups_upd (s4 _ _ eD) (pt.same s4)) (tup_upd (s4 _ _ eD) eT)
    · rw [List.range_succ, List.filter_append, List.filter_cons_of_neg (by rw [hk]; exact Bool.false_ne_true), List.filter_nil, List.append_nil]
      exact pt.same s4
  · have e : i = n := by omega
    subst e
    exact .inl ⟨stop H sm, done H ts sm eD pt⟩
theorem tups_got {H : Hp} {ts : List V} {ls : List (List V)} (p : TupsT H ts ls) {i : Nat} {x : V} (h : ts[i]? = some x) : ∃ vs a, ls[i]? = some vs ∧ x = .ref a ∧ H a = some (.tup vs) := by
  obtain ⟨vs, hv, a, e, ha⟩ := paired_get p h
  exact ⟨vs, a, hv, e, ha⟩
theorem cut_to (xs : List V) (m : Nat) : cutV xs none (some (m : Int)) = xs.take m := by
  unfold cutV
  rw [HT.sIx_nat, show HT.sIx xs.length 0 none = 0 from rfl, Nat.sub_zero, List.drop_zero]
  by_cases h : m ≤ xs.length
  · rw [Nat.min_eq_left h]
  · rw [Nat.min_eq_right (by omega), List.take_of_length_le (Nat.le_refl _), List.take_of_length_le (by omega)]
theorem cut_from (xs : List V) (m : Nat) : cutV xs (some (m : Int)) none = xs.drop m := by
  unfold cutV
  rw [HT.sIx_nat, show HT.sIx xs.length xs.length none = xs.length from rfl]
  by_cases h : m ≤ xs.length
  · rw [Nat.min_eq_left h, List.take_of_length_le (by rw [List.length_drop]; exact Nat.le_refl _)]
  · rw [Nat.min_eq_right (by omega), List.drop_eq_nil_of_le (Nat.le_refl _), List.drop_eq_nil_of_le (show xs.length ≤ m by omega), List.take_nil]
theorem slA {K : PySem.W.Frag} {H : Hp} {a : Addr} {xs : List V} {lo hi : Option Int} {Q : VK} (h : H a = some (.tup xs)) (q : ∀ p H', Same H H' → H' p = some (.tup (cutV xs lo hi)) → Q (.ref p) H') : rSlA K (.ref a) lo hi H Q := by
  refine ⟨a, xs, rfl, sqT h, fun z => q a H (Same.refl _) ?_, fun _ p np => q p _ (same_upd np) upd_same⟩
  rw [h]
  unfold cutV
  rw [z.1, z.2, List.drop_zero, Nat.sub_zero, List.take_of_length_le (Nat.le_refl _)]
theorem catA {K : PySem.W.Frag} {H : Hp} {a b : Addr} {xs ys : List V} {Q : VK} (ha : H a = some (.tup xs)) (hb : H b = some (.tup ys)) (hl : xs.length + ys.length ≤ 1000) (q : ∀ p H', Same H H' → H' p = some (.tup (xs ++ ys)) → Q (.ref p) H') : rCatA K (.ref a) (.ref b) H Q := by
  refine ⟨a, b, xs, ys, rfl, rfl, sqT ha, sqT hb, by rw [sizeLine_eq]; omega, fun z => q b H (Same.refl _) ?_, fun _ z => q a H (Same.refl _) ?_, fun _ _ p np => q p _ (same_upd np) upd_same⟩
  · rw [hb, z, List.nil_append]
  · rw [ha, z, List.append_nil]
theorem paired_take {α β : Type} {F : α → β → Prop} {xs : List α} {ys : List β} (p : Paired F xs ys) : ∀ k, Paired F (xs.take k) (ys.take k) ∧ Paired F (xs.drop k) (ys.drop k) := by
  induction p with
  | nil => intro k; rw [List.take_nil, List.take_nil, List.drop_nil, List.drop_nil]; exact ⟨.nil, .nil⟩
  | cons f r ih =>
    intro k
    cases k with
    | zero => exact ⟨.nil, .cons f r⟩
    | succ k => exact ⟨.cons f (ih k).1, (ih k).2⟩
theorem paired_app {α β : Type} {F : α → β → Prop} {xs xs' : List α} {ys ys' : List β} (p : Paired F xs ys) (q : Paired F xs' ys') : Paired F (xs ++ xs') (ys ++ ys') := by
  induction p with
  | nil => exact q
  | cons f _ ih => exact .cons f ih
theorem lcPred {J : It} {n : Nat} {g : TG} {tt : TT} {te : TE} {vs : List Nat} {σ : L2.St} {H1 : Hp} {D : Addr} {Qd : Hp → Prop} (keep : Nat → Bool) (T : Nat → Hp → V → Prop) (hst : ∀ i H H' x, Same H H' → T i H x → T i H' x) (hup : ∀ i H x us ys, H D = some (.lst us) → T i H x → T i (upd H D (.lst ys)) x)
    (nD : H1 D = none) (hn : n ≤ 4000) (go : ∀ i H, i < n → Same H1 H → J.go i H) (stop : ∀ H, Same H1 H → J.stop n H)
    (turn : ∀ i x H H' (Qk : VK) (Qn : Hp → Prop), i < n → Same H1 H → (∃ us, H D = some (.lst us)) → J.yld i H x H' → (∀ y H4, keep i = true → T i H4 y → Same H H4 → Qk y H4) → (∀ H4, keep i = false → Same H H4 → Qn H4) → g x (wipe σ vs) H' fun σ2 H2 => wipe σ2 vs = wipe σ vs ∧ tt σ2 H2 fun b H3 => if b = true then te σ2 H3 Qk else Qn H3)
    (done : ∀ H ts, Same H1 H → H D = some (.lst ts) → Paired (fun x i => T i H x) ts ((List.range n).filter keep) → Qd H) :
    ∃ W : Nat → Nat → Hp → Prop, (∃ m, W 0 m (upd H1 D (.lst []))) ∧ ∀ i m H, W i m H →
      (J.stop i H ∧ Qd H) ∨ (J.go i H ∧ ∃ Nx : Hp → Prop, (∀ H', Nx H' → ∃ m', m' < m ∧ W (i + 1) m' H') ∧ ∀ x H', J.yld i H x H' → g x (wipe σ vs) H' fun σ2 H2 => wipe σ2 vs = wipe σ vs ∧ tt σ2 H2 fun b H3 =>
        if b = true then te σ2 H3 fun y H4 => ∃ acc, H4 D = some (.lst acc) ∧ acc.length < sizeLine ∧ Nx (upd H4 D (.lst (acc ++ [y]))) else Nx H3) := by
  refine ⟨fun i m H => m = n - i ∧ i ≤ n ∧ Same H1 H ∧ ∃ ts, H D = some (.lst ts) ∧ Paired (fun x i => T i H x) ts ((List.range i).filter keep), ⟨n, rfl, Nat.zero_le _, same_upd nD, [], upd_same, .nil⟩, ?_⟩
  rintro i m H ⟨rfl, hi, sm, ts, eD, pt⟩
  by_cases hlt : i < n
  · refine .inr ⟨go i H hlt sm, fun H' => Same H1 H' ∧ ∃ ts, H' D = some (.lst ts) ∧ Paired (fun x i => T i H' x) ts ((List.range (i + 1)).filter keep), fun H' p => ⟨n - (i + 1), by omega, rfl, hlt, p.1, p.2⟩, fun x H' y => ?_⟩
    refine turn i x H H' _ _ hlt sm ⟨ts, eD⟩ y (fun y H4 hk eT s4 => ⟨ts, s4 _ _ eD, ?_, fun b o e => ?_, _, upd_same, ?_⟩) (fun H4 hk s4 => ⟨sm.trans s4, ts, s4 _ _ eD, ?_⟩)
    · have h1 := pt.length
      have h2 := List.length_filter_le keep (List.range i)
      rw [List.length_range] at h2
      rw [sizeLine_eq]
      omega
    · rw [upd_ne (ne_of_none e nD)]
      exact s4 _ _ (sm _ _ e)
    · rw [List.range_succ, List.filter_append, List.filter_cons_of_pos hk]
      exact paired_snoc (paired_imp (fun x i h => hup i _ x _ _ (s4 _ _ eD) (hst i _ _ x s4 h)) pt) (hup i _ y _ _ (s4 _ _ eD) eT)
    · rw [List.range_succ, List.filter_append, List.filter_cons_of_neg (by rw [hk]; exact Bool.false_ne_true), List.filter_nil, List.append_nil]
      exact paired_imp (fun x i h => hst i _ _ x s4 h) pt
  · have e : i = n := by omega
    subst e
    exact .inl ⟨stop H sm, done H ts sm eD pt⟩
theorem paired_map {α β γ : Type} {F : α → γ → Prop} {g : β → γ} {xs : List α} {ys : List β} (p : Paired (fun x y => F x (g y)) xs ys) : Paired F xs (ys.map g) := by
  induction p with
  | nil => exact .nil
  | cons f _ ih => exact .cons f ih
theorem nts_snoc (l : List Nat) {x : Int} (h : 0 ≤ x) : nts l ++ [.int x] = nts (l ++ [x.toNat]) := by
  unfold nts
  rw [List.map_append, List.map_singleton, Int.toNat_of_nonneg h]
theorem fmod_nn {a b : Int} (ha : 0 ≤ a) (hb : 0 < b) : 0 ≤ a.fmod b ∧ a.fmod b < b := ⟨Int.fmod_nonneg_of_pos a hb, Int.fmod_lt_of_pos a hb⟩
theorem fdiv_nn {a b : Int} (ha : 0 ≤ a) (hb : 0 < b) : 0 ≤ a.fdiv b ∧ a.fdiv b ≤ a := by
  rw [Int.fdiv_eq_ediv_of_nonneg a (by omega)]
  exact ⟨Int.ediv_nonneg ha (by omega), Int.ediv_le_self b ha⟩
def NumsAt (H : Hp) (a : Addr) : Prop := ∃ l : List Nat, H a = some (.lst (nts l)) ∧ l.length ≤ 4000
def SameB (a : Addr) (H H' : Hp) : Prop := ∀ b o, b ≠ a → H b = some o → H' b = some o
theorem SameB.trans {a : Addr} {H1 H2 H3 : Hp} (h : SameB a H1 H2) (k : SameB a H2 H3) : SameB a H1 H3 := fun b o n e => k b o n (h b o n e)
theorem SameB.refl {a : Addr} {H : Hp} : SameB a H H := fun _ _ _ e => e
theorem sameB_of {a : Addr} {H1 H2 : Hp} (h : Same H1 H2) : SameB a H1 H2 := fun b o _ e => h b o e
theorem NumsAt.same {H H' : Hp} {a : Addr} (h : NumsAt H a) (s : Same H H') : NumsAt H' a := by
  obtain ⟨l, e, n⟩ := h
  exact ⟨l, s _ _ e, n⟩
theorem nums_ne {H : Hp} {a l : Addr} (n : NumsAt H a) (h : H l = none) : l ≠ a := fun z => by
  obtain ⟨x, e, _⟩ := n
  rw [z, e] at h
  cases h
theorem none_of_b {a l : Addr} {H H' : Hp} (s : SameB a H H') (n : NumsAt H' a) (h : H' l = none) : H l = none := by
  cases e : H l with
  | none => rfl
  | some o =>
    rw [s _ _ (nums_ne n h) e] at h
    cases h
theorem nums_upd {H : Hp} {a F : Addr} {o : HO} (n : NumsAt H a) (h : F ≠ a) : NumsAt (upd H F o) a := by
  obtain ⟨l, e, n⟩ := n
  exact ⟨l, by rw [upd_ne h.symm]; exact e, n⟩
theorem pick {K : PySem.W.Frag} {H : Hp} {L : Addr} {ms : List Nat} {r : Nat} {Q : VK} (e : H L = some (.lst (nts ms))) (hr : r < ms.length) (q : ∀ v, v ∈ ms → Q (.int (v : Nat)) H) : rIxL K (.ref L) (.int (r : Nat)) H Q := by
  refine ⟨L, _, r, .int (ms[r] : Nat), rfl, rfl, sqL e, atI_nat ?_, q _ (List.getElem_mem hr)⟩
  unfold nts
  rw [List.getElem?_map, List.getElem?_eq_getElem hr]
  rfl
def rTupOf (K : PySem.W.Frag) : List V → Hp → VK → Prop := fun xs H Q => ∃ p ys, xs = [.ref p] ∧ ((SqL K H p ys ∧ ∀ l, H l = none → Q (.ref l) (upd H l (.tup ys))) ∨ (SqT K H p ys ∧ Q (.ref p) H))
def rListOf (K : PySem.W.Frag) : List V → Hp → VK → Prop := fun xs H Q => ∃ p ys, xs = [.ref p] ∧ (SqL K H p ys ∨ SqT K H p ys) ∧ ∀ l, H l = none → Q (.ref l) (upd H l (.lst ys))
theorem tupOf {K : PySem.W.Frag} {H : Hp} {a : Addr} {xs : List V} {Q : VK} (h : Sq H a xs) (q : ∀ p H', Same H H' → H' p = some (.tup xs) → Q (.ref p) H') : rTupOf K [.ref a] H Q := by
  rcases h with h | h
  · exact ⟨a, xs, rfl, .inl ⟨sqL h, fun l nl => q l _ (same_upd nl) upd_same⟩⟩
  · exact ⟨a, xs, rfl, .inr ⟨sqT h, q a H (Same.refl _) h⟩⟩
theorem listOf {K : PySem.W.Frag} {H : Hp} {a : Addr} {xs : List V} {Q : VK} (h : Sq H a xs) (q : ∀ p H', Same H H' → H p = none → H' p = some (.lst xs) → Q (.ref p) H') : rListOf K [.ref a] H Q :=
  ⟨a, xs, rfl, h.elim (fun z => .inl (sqL z)) (fun z => .inr (sqT z)), fun l nl => q l _ (same_upd nl) nl upd_same⟩
/-- as LcR, what follows told of the new list's address: it is found by unification -/
def LcD (J : It) (g : TG) (tt : TT) (te : TE) (vs : List Nat) (σ : L2.St) (H1 : Hp) (Q : Addr → Hp → Prop) : Prop := ∀ D, H1 D = none → ∃ W : Nat → Nat → Hp → Prop, (∃ m, W 0 m (upd H1 D (.lst []))) ∧ ∀ i m H, W i m H →
  (J.stop i H ∧ Q D H) ∨ (J.go i H ∧ ∃ Nx : Hp → Prop, (∀ H', Nx H' → ∃ m', m' < m ∧ W (i + 1) m' H') ∧ ∀ x H', J.yld i H x H' → g x (wipe σ vs) H' fun σ2 H2 => wipe σ2 vs = wipe σ vs ∧ tt σ2 H2 fun b H3 =>
    if b = true then te σ2 H3 fun y H4 => ∃ acc, H4 D = some (.lst acc) ∧ acc.length < sizeLine ∧ Nx (upd H4 D (.lst (acc ++ [y]))) else Nx H3)
/-- [e for x in xs], xs a list; what is made is told by a predicate -/
theorem lcLst {K : PySem.W.Frag} {a : Addr} {xs : List V} {g : TG} {te : TE} {vs : List Nat} {σ : L2.St} {H1 : Hp} {Q : Addr → Hp → Prop} (T : Nat → Hp → V → Prop) (hst : ∀ i H H' x, Same H H' → T i H x → T i H' x)
    (hup : ∀ D i H x us ys, H D = some (.lst us) → H1 D = none → T i H x → T i (upd H D (.lst ys)) x) (hq : H1 a = some (.lst xs)) (hn : xs.length ≤ 4000)
    (turn : ∀ (D : Addr) (i : Nat) (x : V) (H : Hp) (Qk : VK) (Qn : Hp → Prop), xs[i]? = some x → Same H1 H → H1 D = none → (∃ us, H D = some (.lst us)) → (∀ y H4, T i H4 y → Same H H4 → Qk y H4) → g x (wipe σ vs) H fun σ2 H2 => wipe σ2 vs = wipe σ vs ∧ tYes σ2 H2 fun b H3 => if b = true then te σ2 H3 Qk else Qn H3)
    (done : ∀ D H ts, H1 D = none → Same H1 H → H D = some (.lst ts) → Paired (fun x i => T i H x) ts (List.range xs.length) → Q D H) : LcD (Itl K a) g tYes te vs σ H1 Q := by
  have ef : ∀ n : Nat, (List.range n).filter (fun _ => true) = List.range n := fun n => List.filter_eq_self.mpr (fun _ _ => rfl)
  refine fun D nD => lcPred (n := xs.length) (tt := tYes) (fun _ => true) T hst (fun i H x us ys e h => hup D i H x us ys e nD h) nD hn (fun i H h s => ⟨xs, xs[i], sqL (s _ _ hq), List.getElem?_eq_getElem h⟩) (fun H s => ⟨xs, sqL (s _ _ hq), Nat.le_refl _⟩)
      (fun i x H H' Qk Qn h s eD y hk _ => ?_) (fun H ts s e p => done D H ts nD s e (by rw [ef] at p; exact p))
  obtain ⟨rfl, y⟩ := y
  exact turn D i x _ Qk Qn (y xs (sqL (s _ _ hq))) s nD eD fun y H4 h4 s4 => hk y H4 rfl h4 s4
/-- .. a tuple -/
theorem lcTup {K : PySem.W.Frag} {a : Addr} {xs : List V} {g : TG} {te : TE} {vs : List Nat} {σ : L2.St} {H1 : Hp} {Q : Addr → Hp → Prop} (T : Nat → Hp → V → Prop) (hst : ∀ i H H' x, Same H H' → T i H x → T i H' x)
    (hup : ∀ D i H x us ys, H D = some (.lst us) → H1 D = none → T i H x → T i (upd H D (.lst ys)) x) (hq : H1 a = some (.tup xs)) (hn : xs.length ≤ 4000)
    (turn : ∀ (D : Addr) (i : Nat) (x : V) (H : Hp) (Qk : VK) (Qn : Hp → Prop), xs[i]? = some x → Same H1 H → H1 D = none → (∃ us, H D = some (.lst us)) → (∀ y H4, T i H4 y → Same H H4 → Qk y H4) → g x (wipe σ vs) H fun σ2 H2 => wipe σ2 vs = wipe σ vs ∧ tYes σ2 H2 fun b H3 => if b = true then te σ2 H3 Qk else Qn H3)
    (done : ∀ D H ts, H1 D = none → Same H1 H → H D = some (.lst ts) → Paired (fun x i => T i H x) ts (List.range xs.length) → Q D H) : LcD (Itt K a) g tYes te vs σ H1 Q := by
  have ef : ∀ n : Nat, (List.range n).filter (fun _ => true) = List.range n := fun n => List.filter_eq_self.mpr (fun _ _ => rfl)
  refine fun D nD => lcPred (n := xs.length) (tt := tYes) (fun _ => true) T hst (fun i H x us ys e h => hup D i H x us ys e nD h) nD hn (fun i H h s => ⟨xs, xs[i], sqT (s _ _ hq), List.getElem?_eq_getElem h⟩) (fun H s => ⟨xs, sqT (s _ _ hq), Nat.le_refl _⟩)
      (fun i x H H' Qk Qn h s eD y hk _ => ?_) (fun H ts s e p => done D H ts nD s e (by rw [ef] at p; exact p))
  obtain ⟨rfl, y⟩ := y
  exact turn D i x _ Qk Qn (y xs (sqT (s _ _ hq))) s nD eD fun y H4 h4 s4 => hk y H4 rfl h4 s4
/-- .. a list or a tuple -/
theorem lcSeqP {K : PySem.W.Frag} {a : Addr} {xs : List V} {g : TG} {te : TE} {vs : List Nat} {σ : L2.St} {H1 : Hp} {Q : Addr → Hp → Prop} (T : Nat → Hp → V → Prop) (hst : ∀ i H H' x, Same H H' → T i H x → T i H' x)
    (hup : ∀ D i H x us ys, H D = some (.lst us) → H1 D = none → T i H x → T i (upd H D (.lst ys)) x) (hq : Sq H1 a xs) (hn : xs.length ≤ 4000)
    (turn : ∀ (D : Addr) (i : Nat) (x : V) (H : Hp) (Qk : VK) (Qn : Hp → Prop), xs[i]? = some x → Same H1 H → H1 D = none → (∃ us, H D = some (.lst us)) → (∀ y H4, T i H4 y → Same H H4 → Qk y H4) → g x (wipe σ vs) H fun σ2 H2 => wipe σ2 vs = wipe σ vs ∧ tYes σ2 H2 fun b H3 => if b = true then te σ2 H3 Qk else Qn H3)
    (done : ∀ D H ts, H1 D = none → Same H1 H → H D = some (.lst ts) → Paired (fun x i => T i H x) ts (List.range xs.length) → Q D H) :
    (SqL K H1 a xs ∧ LcD (Itl K a) g tYes te vs σ H1 Q) ∨ (SqT K H1 a xs ∧ LcD (Itt K a) g tYes te vs σ H1 Q) :=
  hq.elim (fun hq => .inl ⟨sqL hq, lcLst T hst hup hq hn turn done⟩) fun hq => .inr ⟨sqT hq, lcTup T hst hup hq hn turn done⟩
/-- [e for i in range(n)]; what is made is told by a predicate -/
theorem lcRngP {n : Nat} {g : TG} {te : TE} {vs : List Nat} {σ : L2.St} {H1 : Hp} {Q : Addr → Hp → Prop} (T : Nat → Hp → V → Prop) (hst : ∀ i H H' x, Same H H' → T i H x → T i H' x)
    (hup : ∀ D i H x us ys, H D = some (.lst us) → H1 D = none → T i H x → T i (upd H D (.lst ys)) x) (hn : n ≤ 4000)
    (turn : ∀ (D : Addr) (i : Nat) (H : Hp) (Qk : VK) (Qn : Hp → Prop), i < n → Same H1 H → H1 D = none → (∃ us, H D = some (.lst us)) → (∀ y H4, T i H4 y → Same H H4 → Qk y H4) → g (.int (i : Nat)) (wipe σ vs) H fun σ2 H2 => wipe σ2 vs = wipe σ vs ∧ tYes σ2 H2 fun b H3 => if b = true then te σ2 H3 Qk else Qn H3)
    (done : ∀ D H ts, H1 D = none → Same H1 H → H D = some (.lst ts) → Paired (fun x i => T i H x) ts (List.range n) → Q D H) : LcD (Itr 0 n) g tYes te vs σ H1 Q := by
  have ef : ∀ n : Nat, (List.range n).filter (fun _ => true) = List.range n := fun n => List.filter_eq_self.mpr (fun _ _ => rfl)
  refine fun D nD => lcPred (n := n) (tt := tYes) (fun _ => true) T hst (fun i H x us ys e h => hup D i H x us ys e nD h) nD hn (fun i H h s => h) (fun H s => Nat.le_refl _)
      (fun i x H H' Qk Qn h s eD y hk _ => ?_) (fun H ts s e p => done D H ts nD s e (by rw [ef] at p; exact p))
  obtain ⟨rfl, rfl⟩ := y
  rw [Int.zero_add]
  exact turn D i _ Qk Qn h s nD eD fun y H4 h4 s4 => hk y H4 rfl h4 s4
theorem paired_eq {α β : Type} {g : β → α} {xs : List α} {ys : List β} (p : Paired (fun x y => x = g y) xs ys) : xs = ys.map g := by
  induction p with
  | nil => rfl
  | cons f _ ih => rw [List.map_cons, f, ih]
theorem map_range_get {α : Type} {f : Nat → α} {xs : List α} (h : ∀ i x, xs[i]? = some x → f i = x) : (List.range xs.length).map f = xs := by
  refine List.ext_getElem? fun i => ?_
  rw [List.getElem?_map]
  by_cases hi : i < xs.length
  · rw [List.getElem?_eq_getElem (by rw [List.length_range]; exact hi), List.getElem_range, List.getElem?_eq_getElem hi]
    exact congrArg some (h i _ (List.getElem?_eq_getElem hi))
  · rw [List.getElem?_eq_none (by rw [List.length_range]; omega), List.getElem?_eq_none (by omega)]
    rfl
theorem atI_end (xs : List V) (v : V) : atI (xs ++ [v]) (-1) = some v := by
  unfold atI ixN
  rw [if_neg (by omega), if_pos (by rw [List.length_append, List.length_singleton]; omega)]
  show (xs ++ [v])[((-1 : Int) + ((xs ++ [v]).length : Int)).toNat]? = some v
  rw [List.length_append, List.length_singleton, show ((-1 : Int) + ((xs.length + 1 : Nat) : Int)).toNat = xs.length by omega, List.getElem?_append_right (Nat.le_refl _), Nat.sub_self]
  rfl
/-- [e for i, x in enumerate(xs)], xs a tuple -/
theorem lcEnT {K : PySem.W.Frag} {a : Addr} {xs : List V} {g : TG} {te : TE} {vs : List Nat} {σ : L2.St} {H1 : Hp} {Q : Addr → Hp → Prop} (T : Nat → Hp → V → Prop) (hst : ∀ i H H' x, Same H H' → T i H x → T i H' x)
    (hup : ∀ D i H x us ys, H D = some (.lst us) → H1 D = none → T i H x → T i (upd H D (.lst ys)) x) (hq : H1 a = some (.tup xs)) (hn : xs.length ≤ 4000)
    (turn : ∀ (D : Addr) (i : Nat) (x : V) (U : Addr) (H : Hp) (Qk : VK) (Qn : Hp → Prop), xs[i]? = some x → Same H1 H → H1 D = none → (∃ us, H D = some (.lst us)) → H U = none → (∀ y H4, T i H4 y → Same H H4 → Qk y H4) → g (.ref U) (wipe σ vs) (upd H U (.tup [.int (i : Nat), x])) fun σ2 H2 => wipe σ2 vs = wipe σ vs ∧ tYes σ2 H2 fun b H3 => if b = true then te σ2 H3 Qk else Qn H3)
    (done : ∀ D H ts, H1 D = none → Same H1 H → H D = some (.lst ts) → Paired (fun x i => T i H x) ts (List.range xs.length) → Q D H) : LcD (IteT K a) g tYes te vs σ H1 Q := by
  have ef : ∀ n : Nat, (List.range n).filter (fun _ => true) = List.range n := fun n => List.filter_eq_self.mpr (fun _ _ => rfl)
  refine fun D nD => lcPred (n := xs.length) (tt := tYes) (fun _ => true) T hst (fun i H x us ys e h => hup D i H x us ys e nD h) nD hn (fun i H h s => ⟨xs, xs[i], sqT (s _ _ hq), List.getElem?_eq_getElem h⟩) (fun H s => ⟨xs, sqT (s _ _ hq), rfl⟩)
      (fun i x H H' Qk Qn h s eD y hk _ => ?_) (fun H ts s e p => done D H ts nD s e (by rw [ef] at p; exact p))
  obtain ⟨U, x, rfl, nU, rfl, hx⟩ := y
  exact turn D i x U _ Qk Qn (hx xs (sqT (s _ _ hq))) s nD eD nU fun y H4 h4 s4 => hk y H4 rfl h4 s4
/-- for x in xs, xs a tuple -/
theorem forTt {K : PySem.W.Frag} {a : Addr} {xs : List V} {g : TG} {tb : TS} {D : Ends} {σ : L2.St} {H : Hp} (Pv : Nat → L2.St → Hp → Prop) (hq : H a = some (.tup xs)) (h0 : Pv 0 σ H) (hl : ∀ i σ H' o, Pv i σ H' → H a = some o → H' a = some o)
    (turn : ∀ i x σ H, xs[i]? = some x → Pv i σ H → g x σ H fun σ2 H2 => tb { nx := Pv (i + 1), rt := D.rt, bk := D.nx, ct := Pv (i + 1) } σ2 H2) (done : ∀ σ H, Pv xs.length σ H → D.nx σ H) : ForR (Itt K a) g tb D σ H :=
  forGen (n := xs.length) Pv h0 (fun i σ H h p => ⟨xs, xs[i], sqT (hl _ _ _ _ p hq), List.getElem?_eq_getElem h⟩) (fun σ H p => ⟨xs, sqT (hl _ _ _ _ p hq), Nat.le_refl _⟩) (fun i x σ H H' hi p y => by
    obtain ⟨rfl, y⟩ := y
    exact turn i x σ _ (y xs (sqT (hl _ _ _ _ p hq))) p) done
/-- for x in xs, xs a list that the body does not change -/
theorem forLs {K : PySem.W.Frag} {a : Addr} {xs : List V} {g : TG} {tb : TS} {D : Ends} {σ : L2.St} {H : Hp} (Pv : Nat → L2.St → Hp → Prop) (hq : H a = some (.lst xs)) (h0 : Pv 0 σ H) (hl : ∀ i σ H', Pv i σ H' → H' a = some (.lst xs))
    (turn : ∀ i x σ H, xs[i]? = some x → Pv i σ H → g x σ H fun σ2 H2 => tb { nx := Pv (i + 1), rt := D.rt, bk := D.nx, ct := Pv (i + 1) } σ2 H2) (done : ∀ σ H, Pv xs.length σ H → D.nx σ H) : ForR (Itl K a) g tb D σ H :=
  forGen (n := xs.length) Pv h0 (fun i σ H h p => ⟨xs, xs[i], sqL (hl _ _ _ p), List.getElem?_eq_getElem h⟩) (fun σ H p => ⟨xs, sqL (hl _ _ _ p), Nat.le_refl _⟩) (fun i x σ H H' hi p y => by
    obtain ⟨rfl, y⟩ := y
    exact turn i x σ _ (y xs (sqL (hl _ _ _ p))) p) done
/-- for i in range(n) -/
theorem forRg {n : Nat} {g : TG} {tb : TS} {D : Ends} {σ : L2.St} {H : Hp} (Pv : Nat → L2.St → Hp → Prop) (h0 : Pv 0 σ H)
    (turn : ∀ i σ H, i < n → Pv i σ H → g (.int (i : Nat)) σ H fun σ2 H2 => tb { nx := Pv (i + 1), rt := D.rt, bk := D.nx, ct := Pv (i + 1) } σ2 H2) (done : ∀ σ H, Pv n σ H → D.nx σ H) : ForR (Itr 0 n) g tb D σ H :=
  forGen (n := n) Pv h0 (fun i σ H h p => h) (fun σ H p => Nat.le_refl _) (fun i x σ H H' hi p y => by
    obtain ⟨rfl, rfl⟩ := y
    rw [Int.zero_add]
    exact turn i σ _ hi p) done
theorem atI_lastN {l : List Nat} {y : Nat} (h : l.getLast? = some y) : atI (nts l) (-1) = some (.int (y : Nat)) := by
  obtain ⟨pre, rfl⟩ : ∃ pre, l = pre ++ [y] := List.getLast?_eq_some_iff.mp h
  have e : nts (pre ++ [y]) = nts pre ++ [V.int (y : Nat)] := by unfold nts; rw [List.map_append]; rfl
  rw [e]
  exact atI_end _ _
/-! ### whole numbers from 0 on -/
def rAddN : R2 := fun x y H Q => ∃ m n : Nat, x = .int (m : Nat) ∧ y = .int (n : Nat) ∧ Q (.int ((m + n : Nat) : Int)) H
def rSubN : R2 := fun x y H Q => ∃ m n : Nat, x = .int (m : Nat) ∧ y = .int (n : Nat) ∧ n ≤ m ∧ Q (.int ((m - n : Nat) : Int)) H
def rMultN : R2 := fun x y H Q => ∃ m n : Nat, x = .int (m : Nat) ∧ y = .int (n : Nat) ∧ m < 1000000000000000000 ∧ Q (.int ((m * n : Nat) : Int)) H
def rFloorDivN : R2 := fun x y H Q => ∃ m n : Nat, x = .int (m : Nat) ∧ y = .int (n : Nat) ∧ 1 ≤ n ∧ n < 1073741824 ∧ Q (.int ((m / n : Nat) : Int)) H
def rModN : R2 := fun x y H Q => ∃ m n : Nat, x = .int (m : Nat) ∧ y = .int (n : Nat) ∧ 1 ≤ n ∧ Q (.int ((m % n : Nat) : Int)) H
theorem fmod_nat (m n : Nat) : Int.fmod (m : Int) (n : Int) = ((m % n : Nat) : Int) := by
  rw [Int.fmod_eq_emod_of_nonneg _ (by omega)]
  rfl
theorem fdiv_nat (m n : Nat) : Int.fdiv (m : Int) (n : Int) = ((m / n : Nat) : Int) := by
  rw [Int.fdiv_eq_ediv_of_nonneg _ (by omega)]
  rfl
section
variable {X : Cx}
theorem op_AddN : OpR X (binaryOp .Add) rAddN := by
  intro pins s σ H x y v u Q I rx ry h
  obtain ⟨m, n, hx, hy, q⟩ := h
  exact op_add pins s σ H x y v u Q I rx ry ⟨m, n, hx, hy, by rw [Int.natCast_add] at q; exact q⟩
theorem op_SubN : OpR X (binaryOp .Sub) rSubN := by
  intro pins s σ H x y v u Q I rx ry h
  obtain ⟨m, n, hx, hy, hl, q⟩ := h
  exact op_sub pins s σ H x y v u Q I rx ry ⟨m, n, hx, hy, by rw [Int.natCast_sub hl] at q; exact q⟩
theorem op_MultN : OpR X (binaryOp .Mult) rMultN := by
  intro pins s σ H x y v u Q I rx ry h
  obtain ⟨m, n, hx, hy, hl, q⟩ := h
  exact op_mul pins s σ H x y v u Q I rx ry ⟨m, n, hx, hy, .inl ⟨by omega, by omega⟩, by rw [Int.natCast_mul] at q; exact q⟩
theorem op_FloorDivN : OpR X (binaryOp .FloorDiv) rFloorDivN := by
  intro pins s σ H x y v u Q I rx ry h
  obtain ⟨m, n, hx, hy, h1, h2, q⟩ := h
  exact op_fdivN pins s σ H x y v u Q I rx ry ⟨m, n, hx, hy, ⟨by omega, by omega⟩, by rw [← fdiv_nat] at q; exact q⟩
theorem op_ModN : OpR X (binaryOp .Mod) rModN := by
  intro pins s σ H x y v u Q I rx ry h
  obtain ⟨m, n, hx, hy, h1, q⟩ := h
  exact op_modN pins s σ H x y v u Q I rx ry ⟨m, n, hx, hy, (show ((n : Nat) : Int) ≠ 0 by omega), by rw [← fmod_nat] at q; exact q⟩
end
def rMax2N : List V → Hp → VK → Prop := fun xs H Q => ∃ m n : Nat, xs = [.int (m : Nat), .int (n : Nat)] ∧ Q (.int ((max m n : Nat) : Int)) H
def rMin2N : List V → Hp → VK → Prop := fun xs H Q => ∃ m n : Nat, xs = [.int (m : Nat), .int (n : Nat)] ∧ Q (.int ((min m n : Nat) : Int)) H
section
variable {X : Cx}
theorem call_max2N (hc : X.calm = true) : CallR X (.builtin "max") rMax2N := by
  intro pins s σ H vs us Q I r h
  obtain ⟨m, n, hx, q⟩ := h
  refine call_max2 hc pins s σ H vs us Q I r ⟨m, n, hx, ?_⟩
  have e : (if ((n : Nat) : Int) > ((m : Nat) : Int) then ((n : Nat) : Int) else ((m : Nat) : Int)) = ((max m n : Nat) : Int) := by split <;> omega
  rw [e]
  exact q
theorem call_min2N (hc : X.calm = true) : CallR X (.builtin "min") rMin2N := by
  intro pins s σ H vs us Q I r h
  obtain ⟨m, n, hx, q⟩ := h
  refine call_min2 hc pins s σ H vs us Q I r ⟨m, n, hx, ?_⟩
  have e : (if ((n : Nat) : Int) < ((m : Nat) : Int) then ((n : Nat) : Int) else ((m : Nat) : Int)) = ((min m n : Nat) : Int) := by split <;> omega
  rw [e]
  exact q
end
theorem tupsB {a : Addr} {H H' : Hp} {ts : List V} {ls : List (List V)} (n : NumsAt H a) (s : SameB a H H') (p : TupsT H ts ls) : TupsT H' ts ls := by
  obtain ⟨ns, e, _⟩ := n
  exact paired_imp (fun x c ⟨b, e1, h⟩ => ⟨b, e1, s _ _ (fun z => by rw [z, e] at h; cases h) h⟩) p
theorem pickI {K : PySem.W.Frag} {H : Hp} {L : Addr} {ms : List Int} {r : Nat} {Q : VK} (e : H L = some (.lst (ms.map V.int))) (hr : r < ms.length) (q : ∀ v, v ∈ ms → Q (.int v) H) : rIxL K (.ref L) (.int (r : Nat)) H Q := by
  refine ⟨L, _, r, .int ms[r], rfl, rfl, sqL e, atI_nat ?_, q _ (List.getElem_mem hr)⟩
  rw [List.getElem?_map, List.getElem?_eq_getElem hr]
  rfl
theorem paired_set {α β : Type} {F : α → β → Prop} {xs : List α} {ys : List β} (p : Paired F xs ys) : ∀ (i : Nat) {x : α} {y : β}, F x y → Paired F (xs.set i x) (ys.set i y) := by
  induction p with
  | nil => intro i x y h; exact .nil
  | cons f r ih =>
    intro i x y h
    cases i with
    | zero => exact .cons h r
    | succ i => exact .cons f (ih i h)
theorem ixN_nat {n i : Nat} (h : i < n) : ixN n ((i : Nat) : Int) = some i := by
  unfold ixN
  rw [if_pos (by omega), if_pos (by omega)]
  rfl
/-- for i in range(lo, lo + n) -/
theorem forRgL {lo n : Nat} {g : TG} {tb : TS} {D : Ends} {σ : L2.St} {H : Hp} (Pv : Nat → L2.St → Hp → Prop) (h0 : Pv 0 σ H)
    (turn : ∀ i σ H, i < n → Pv i σ H → g (.int ((lo + i : Nat) : Int)) σ H fun σ2 H2 => tb { nx := Pv (i + 1), rt := D.rt, bk := D.nx, ct := Pv (i + 1) } σ2 H2) (done : ∀ σ H, Pv n σ H → D.nx σ H) : ForR (Itr ((lo : Nat) : Int) n) g tb D σ H :=
  forGen (n := n) Pv h0 (fun i σ H h p => h) (fun σ H p => Nat.le_refl _) (fun i x σ H H' hi p y => by
    obtain ⟨rfl, rfl⟩ := y
    rw [← Int.natCast_add]
    exact turn i σ _ hi p) done
/-- [e for x in xs], xs a tuple; what is made is told by a predicate that speaks of the new list's address, too -/
theorem lcTupD {K : PySem.W.Frag} {a : Addr} {xs : List V} {g : TG} {te : TE} {vs : List Nat} {σ : L2.St} {H1 : Hp} {Q : Addr → Hp → Prop} (T : Addr → Nat → Hp → V → Prop) (hst : ∀ D i H H' x, Same H H' → T D i H x → T D i H' x)
    (hup : ∀ D i H x us ys, H D = some (.lst us) → H1 D = none → T D i H x → T D i (upd H D (.lst ys)) x) (hq : H1 a = some (.tup xs)) (hn : xs.length ≤ 4000)
    (turn : ∀ (D : Addr) (i : Nat) (x : V) (H : Hp) (Qk : VK) (Qn : Hp → Prop), xs[i]? = some x → Same H1 H → H1 D = none → (∃ us, H D = some (.lst us)) → (∀ y H4, T D i H4 y → Same H H4 → Qk y H4) → g x (wipe σ vs) H fun σ2 H2 => wipe σ2 vs = wipe σ vs ∧ tYes σ2 H2 fun b H3 => if b = true then te σ2 H3 Qk else Qn H3)
    (done : ∀ D H ts, H1 D = none → Same H1 H → H D = some (.lst ts) → Paired (fun x i => T D i H x) ts (List.range xs.length) → Q D H) : LcD (Itt K a) g tYes te vs σ H1 Q := by
  have ef : ∀ n : Nat, (List.range n).filter (fun _ => true) = List.range n := fun n => List.filter_eq_self.mpr (fun _ _ => rfl)
  refine fun D nD => lcPred (n := xs.length) (tt := tYes) (fun _ => true) (T D) (hst D) (fun i H x us ys e h => hup D i H x us ys e nD h) nD hn (fun i H h s => ⟨xs, xs[i], sqT (s _ _ hq), List.getElem?_eq_getElem h⟩) (fun H s => ⟨xs, sqT (s _ _ hq), Nat.le_refl _⟩)
      (fun i x H H' Qk Qn h s eD y hk _ => ?_) (fun H ts s e p => done D H ts nD s e (by rw [ef] at p; exact p))
  obtain ⟨rfl, y⟩ := y
  exact turn D i x _ Qk Qn (y xs (sqT (s _ _ hq))) s nD eD fun y H4 h4 s4 => hk y H4 rfl h4 s4
/-! ### tuples of whole numbers, compared -/
theorem dpI {K : PySem.W.Frag} {H : Hp} {T : Addr} {ks : List Int} (h : H T = some (.tup (ks.map V.int))) : Dp K H (.ref T) (.tuple (ks.map PyData.int)) := .tup (sqT h) (dpInts ks)
theorem shI (ks : List Int) : SeqAt.shaped (.tuple (ks.map PyData.int)) = true := by
  unfold SeqAt.shaped
  rw [show PyData.canLay0 (.tuple (ks.map PyData.int)) = PyData.canLayAll0 (ks.map PyData.int) from rfl, canInts, Bool.true_and, decide_eq_true_eq]
  show PyData.depthAll (ks.map PyData.int) + 1 ≤ 64
  rw [depInts]
  decide
theorem eqI (ks ls : List Int) : PyData.eqv (.tuple (ks.map PyData.int)) (.tuple (ls.map PyData.int)) = decide (ks = ls) := by
  rw [PyData.eqv]
  exact eqvInts ks ls
theorem eqIr (ks : List Int) : PyData.eqv (.tuple (ks.map PyData.int)) (.tuple (ks.map PyData.int)) = true := by
  rw [eqI]
  exact decide_eq_true rfl
end K7

set_option Elab.async false
set_option linter.all false
set_option maxRecDepth 100000
set_option maxHeartbeats 4000000
namespace K7
open PySem PySem.Spec PyProof.Rows L2 GX NdefX
def topS (i : Nat) : Stmt := PySem.Challenge.pw_guardrungs_k76_cut_tasks_and_first_miss.main.body.getD i (.Pass ⟨0, 0, 0, 0⟩)
abbrev s_BadNumber_init : Stmt := inClass (topS 3) 0
abbrev s_TooMany_init : Stmt := inClass (topS 4) 0
abbrev s_is_whole : Stmt := topS 6
abbrev s_is_listed : Stmt := topS 7
abbrev s_is_time : Stmt := topS 9
abbrev s_check_jobs : Stmt := topS 11
abbrev s_check_place : Stmt := topS 12
abbrev s_Clock_init : Stmt := inClass (topS 13) 0
abbrev s_Clock_run_tick : Stmt := inClass (topS 13) 1
abbrev s_settled : Stmt := topS 14
abbrev s_who_runs : Stmt := topS 15
abbrev s_first_miss : Stmt := topS 16
abbrev s_job_ends : Stmt := topS 17
abbrev s__law_numbers : Stmt := topS 19
abbrev s__law_draw : Stmt := topS 20
abbrev s__law_int : Stmt := topS 21
abbrev s__law_jobs : Stmt := topS 22
abbrev s__law_come : Stmt := topS 23
abbrev s__law_run : Stmt := topS 24
abbrev s__law_who : Stmt := topS 25
abbrev s__law_common : Stmt := topS 26
abbrev s__law_missed : Stmt := topS 27
abbrev s__law_missed_at : Stmt := topS 28
abbrev s__law_ends : Stmt := topS 29
abbrev s__law_refusal : Stmt := topS 30
abbrev s__law_refusals_fit : Stmt := topS 31
abbrev s_law : Stmt := topS 32
theorem ns_BadNumber_init : NScope ["self", "word", "__class__"] ["self", "word"] ["__class__"] (defScope s_BadNumber_init) := ⟨rfl, rfl, rfl, by decide +kernel, rfl, by decide +kernel, by decide +kernel, by decide +kernel, by decide +kernel⟩
theorem ns_TooMany_init : NScope ["self", "limit", "__class__"] ["self", "limit"] ["__class__"] (defScope s_TooMany_init) := ⟨rfl, rfl, rfl, by decide +kernel, rfl, by decide +kernel, by decide +kernel, by decide +kernel, by decide +kernel⟩
abbrev n_is_whole : List Str := ["value", "least", "most"]
theorem sc_is_whole : FnScope n_is_whole ["value", "least", "most"] (defScope s_is_whole) := ⟨rfl, rfl, rfl, by decide +kernel, rfl, by decide +kernel, by decide +kernel⟩
abbrev n_is_listed : List Str := ["value"]
theorem sc_is_listed : FnScope n_is_listed ["value"] (defScope s_is_listed) := ⟨rfl, rfl, rfl, by decide +kernel, rfl, by decide +kernel, by decide +kernel⟩
abbrev n_is_time : List Str := ["period", "offset", "most"]
theorem sc_is_time : FnScope n_is_time ["period", "offset", "most"] (defScope s_is_time) := ⟨rfl, rfl, rfl, by decide +kernel, rfl, by decide +kernel, by decide +kernel⟩
abbrev n_check_jobs : List Str := ["jobs", "job"]
theorem sc_check_jobs : FnScope n_check_jobs ["jobs"] (defScope s_check_jobs) := ⟨rfl, rfl, rfl, by decide +kernel, rfl, by decide +kernel, by decide +kernel⟩
abbrev n_check_place : List Str := ["jobs", "place"]
theorem sc_check_place : FnScope n_check_place ["jobs", "place"] (defScope s_check_place) := ⟨rfl, rfl, rfl, by decide +kernel, rfl, by decide +kernel, by decide +kernel⟩
abbrev n_Clock_init : List Str := ["self", "jobs"]
theorem sc_Clock_init : FnScope n_Clock_init ["self", "jobs"] (defScope s_Clock_init) := ⟨rfl, rfl, rfl, by decide +kernel, rfl, by decide +kernel, by decide +kernel⟩
abbrev n_Clock_run_tick : List Str := ["self", "place", "rungs", "period", "offset"]
theorem sc_Clock_run_tick : FnScope n_Clock_run_tick ["self"] (defScope s_Clock_run_tick) := ⟨rfl, rfl, rfl, by decide +kernel, rfl, by decide +kernel, by decide +kernel⟩
abbrev n_settled : List Str := ["jobs", "common", "_", "period", "clock", "met", "left"]
theorem sc_settled : FnScope n_settled ["jobs"] (defScope s_settled) := ⟨rfl, rfl, rfl, by decide +kernel, rfl, by decide +kernel, by decide +kernel⟩
abbrev n_who_runs : List Str := ["jobs", "ticks", "clock", "_"]
theorem sc_who_runs : FnScope n_who_runs ["jobs", "ticks"] (defScope s_who_runs) := ⟨rfl, rfl, rfl, by decide +kernel, rfl, by decide +kernel, by decide +kernel⟩
abbrev n_first_miss : List Str := ["jobs"]
theorem sc_first_miss : FnScope n_first_miss ["jobs"] (defScope s_first_miss) := ⟨rfl, rfl, rfl, by decide +kernel, rfl, by decide +kernel, by decide +kernel⟩
abbrev n_job_ends : List Str := ["jobs", "place", "many", "told", "missed", "_", "rungs", "period", "offset", "clock", "times", "run"]
theorem sc_job_ends : FnScope n_job_ends ["jobs", "place", "many"] (defScope s_job_ends) := ⟨rfl, rfl, rfl, by decide +kernel, rfl, by decide +kernel, by decide +kernel⟩
abbrev n__law_numbers : List Str := ["script", "numbers", "place", "cell", "turned", "turn", "seed"]
theorem sc__law_numbers : FnScope n__law_numbers ["script"] (defScope s__law_numbers) := ⟨rfl, rfl, rfl, by decide +kernel, rfl, by decide +kernel, by decide +kernel⟩
abbrev n__law_draw : List Str := ["numbers", "many"]
theorem sc__law_draw : FnScope n__law_draw ["numbers", "many"] (defScope s__law_draw) := ⟨rfl, rfl, rfl, by decide +kernel, rfl, by decide +kernel, by decide +kernel⟩
abbrev n__law_int : List Str := ["value"]
theorem sc__law_int : FnScope n__law_int ["value"] (defScope s__law_int) := ⟨rfl, rfl, rfl, by decide +kernel, rfl, by decide +kernel, by decide +kernel⟩
abbrev n__law_jobs : List Str := ["numbers", "great", "jobs", "t", "period", "rungs"]
theorem sc__law_jobs : FnScope n__law_jobs ["numbers"] (defScope s__law_jobs) := ⟨rfl, rfl, rfl, by decide +kernel, rfl, by decide +kernel, by decide +kernel⟩
abbrev n__law_come : List Str := ["jobs", "left", "tick", "missed", "t"]
theorem sc__law_come : FnScope n__law_come ["jobs", "left", "tick"] (defScope s__law_come) := ⟨rfl, rfl, rfl, by decide +kernel, rfl, by decide +kernel, by decide +kernel⟩
abbrev n__law_run : List Str := ["left", "t"]
theorem sc__law_run : FnScope n__law_run ["left"] (defScope s__law_run) := ⟨rfl, rfl, rfl, by decide +kernel, rfl, by decide +kernel, by decide +kernel⟩
abbrev n__law_who : List Str := ["jobs", "ticks", "left", "job", "told", "tick"]
theorem sc__law_who : FnScope n__law_who ["jobs", "ticks"] (defScope s__law_who) := ⟨rfl, rfl, rfl, by decide +kernel, rfl, by decide +kernel, by decide +kernel⟩
abbrev n__law_common : List Str := ["jobs", "common", "job"]
theorem sc__law_common : FnScope n__law_common ["jobs"] (defScope s__law_common) := ⟨rfl, rfl, rfl, by decide +kernel, rfl, by decide +kernel, by decide +kernel⟩
abbrev n__law_missed : List Str := ["jobs", "left", "job", "common", "kept", "tick", "missed"]
theorem sc__law_missed : FnScope n__law_missed ["jobs"] (defScope s__law_missed) := ⟨rfl, rfl, rfl, by decide +kernel, rfl, by decide +kernel, by decide +kernel⟩
abbrev n__law_missed_at : List Str := ["jobs", "left", "job", "tick", "missed"]
theorem sc__law_missed_at : FnScope n__law_missed_at ["jobs"] (defScope s__law_missed_at) := ⟨rfl, rfl, rfl, by decide +kernel, rfl, by decide +kernel, by decide +kernel⟩
abbrev n__law_ends : List Str := ["jobs", "place", "many", "left", "job", "told", "tick"]
theorem sc__law_ends : FnScope n__law_ends ["jobs", "place", "many"] (defScope s__law_ends) := ⟨rfl, rfl, rfl, by decide +kernel, rfl, by decide +kernel, by decide +kernel⟩
abbrev n__law_refusal : List Str := ["jobs", "place", "told", "raised"]
theorem sc__law_refusal : FnScope n__law_refusal ["jobs", "place"] (defScope s__law_refusal) := ⟨rfl, rfl, rfl, by decide +kernel, rfl, by decide +kernel, by decide +kernel⟩
abbrev n__law_refusals_fit : List Str := ["numbers", "jobs", "at", "wrong", "told", "raised", "words", "word"]
theorem sc__law_refusals_fit : FnScope n__law_refusals_fit ["numbers", "jobs"] (defScope s__law_refusals_fit) := ⟨rfl, rfl, rfl, by decide +kernel, rfl, by decide +kernel, by decide +kernel⟩
abbrev n_law : List Str := ["script", "numbers", "jobs", "ticks", "told", "place", "due", "many", "great", "long", "job"]
theorem sc_law : FnScope n_law ["script"] (defScope s_law) := ⟨rfl, rfl, rfl, by decide +kernel, rfl, by decide +kernel, by decide +kernel⟩
end K7

set_option Elab.async false
set_option linter.all false
set_option maxRecDepth 100000
set_option maxHeartbeats 4000000
namespace K7
open PySem PySem.Spec PyProof.Rows L2 GX NdefX
/-- the built-in names are still the built-ins -/
structure Bl (mg : Str → Option Value) : Prop where
  bool : mg "bool" = none
  enumerate : mg "enumerate" = none
  int : mg "int" = none
  isinstance : mg "isinstance" = none
  len : mg "len" = none
  list : mg "list" = none
  min : mg "min" = none
  range : mg "range" = none
  str : mg "str" = none
  tuple : mg "tuple" = none
/-- a def of the top: where it stands, how it is called -/
structure Kn (K : PySem.W.Frag) (mg : Str → Option Value) (x : Str) (st : Stmt) (ps : List Str) where
  f : Addr
  fd : FuncData
  F : Fun K x x st f fd
  b : Binds K fd ps []
  g : mg x = some (.ref f)
/-- an exception class of the top -/
structure Ke (P : Program) (K : PySem.W.Frag) (mg : Str → Option Value) (x q : Str) (st : Stmt) (ps fs : List Str) where
  C : Addr
  f : Addr
  fd : FuncData
  T : Sup P K mg C f q st fd
  b : Binds K fd ps []
  nf : ∀ y ∈ fs, PySem.W.findIn K (.ref C) y = some none
  g : mg x = some (.ref C)
  X : XfC K C
/-- a plain class of the top: its fields, its own __init__ -/
structure Kc (K : PySem.W.Frag) (mg : Str → Option Value) (x q : Str) (st : Stmt) (ps fs : List Str) where
  C : Addr
  f : Addr
  fd : FuncData
  F : Fun K "__init__" q st f fd
  b : Binds K fd ps []
  M : Mk K C f
  cl : Cls K C
  nf : ∀ y ∈ fs, NoAttr K C y
  g : mg x = some (.ref C)
/-- a method of it -/
structure Km (K : PySem.W.Frag) (C : Addr) (m q : Str) (st : Stmt) (ps : List Str) where
  f : Addr
  fd : FuncData
  F : Fun K m q st f fd
  b : Binds K fd ps []
  M : Meth K C m f
/-- the whole top -/
structure Pr (P : Program) (K : PySem.W.Frag) (mg : Str → Option Value) where
  B : Bl mg
  BadNumber : Ke P K mg "BadNumber" "BadNumber.__init__" s_BadNumber_init ["self", "word"] ["word"]
  TooMany : Ke P K mg "TooMany" "TooMany.__init__" s_TooMany_init ["self", "limit"] ["limit"]
  x_BadNumber_BadNumber : PySem.W.exmOne K (.ref BadNumber.C) (.ref BadNumber.C) = some true
  x_BadNumber_TooMany : PySem.W.exmOne K (.ref BadNumber.C) (.ref TooMany.C) = some false
  x_TooMany_BadNumber : PySem.W.exmOne K (.ref TooMany.C) (.ref BadNumber.C) = some false
  x_TooMany_TooMany : PySem.W.exmOne K (.ref TooMany.C) (.ref TooMany.C) = some true
  g_lcm : mg "lcm" = some (.builtin "math.lcm")
  Clock : Kc K mg "Clock" "Clock.__init__" s_Clock_init ["self", "jobs"] ["jobs", "tick", "left", "missed"]
  Clock_run_tick : Km K Clock.C "run_tick" "Clock.run_tick" s_Clock_run_tick ["self"]
  is_whole : Kn K mg "is_whole" s_is_whole ["value", "least", "most"]
  is_listed : Kn K mg "is_listed" s_is_listed ["value"]
  is_time : Kn K mg "is_time" s_is_time ["period", "offset", "most"]
  check_jobs : Kn K mg "check_jobs" s_check_jobs ["jobs"]
  check_place : Kn K mg "check_place" s_check_place ["jobs", "place"]
  settled : Kn K mg "settled" s_settled ["jobs"]
  who_runs : Kn K mg "who_runs" s_who_runs ["jobs", "ticks"]
  first_miss : Kn K mg "first_miss" s_first_miss ["jobs"]
  job_ends : Kn K mg "job_ends" s_job_ends ["jobs", "place", "many"]
  _law_numbers : Kn K mg "_law_numbers" s__law_numbers ["script"]
  _law_draw : Kn K mg "_law_draw" s__law_draw ["numbers", "many"]
  _law_int : Kn K mg "_law_int" s__law_int ["value"]
  _law_jobs : Kn K mg "_law_jobs" s__law_jobs ["numbers"]
  _law_come : Kn K mg "_law_come" s__law_come ["jobs", "left", "tick"]
  _law_run : Kn K mg "_law_run" s__law_run ["left"]
  _law_who : Kn K mg "_law_who" s__law_who ["jobs", "ticks"]
  _law_common : Kn K mg "_law_common" s__law_common ["jobs"]
  _law_missed : Kn K mg "_law_missed" s__law_missed ["jobs"]
  _law_missed_at : Kn K mg "_law_missed_at" s__law_missed_at ["jobs"]
  _law_ends : Kn K mg "_law_ends" s__law_ends ["jobs", "place", "many"]
  _law_refusal : Kn K mg "_law_refusal" s__law_refusal ["jobs", "place"]
  _law_refusals_fit : Kn K mg "_law_refusals_fit" s__law_refusals_fit ["numbers", "jobs"]
end K7

set_option Elab.async false
set_option linter.all false
set_option maxRecDepth 100000
set_option maxHeartbeats 4000000
namespace K7
open PySem PySem.Spec PyProof.Rows L2 GX NdefX
/-! ### is_whole, is_listed, is_time -/
def spWhole : Sp := fun vs H Q _ => ∃ (x : V) (l m : Int), vs = [x, .int l, .int m] ∧ ((∃ i, x = .int i) ∨ ∃ b, x = .bl b) ∧ Q (.bl (wholeV l m x)) H
def spListed : Sp := fun vs H Q _ => ∃ x : V, vs = [x] ∧ ((∃ a xs, x = .ref a ∧ Sq H a xs ∧ ∀ H', Same H H' → Q (.bl true) H') ∨ (Scal x ∧ ∀ H', Same H H' → Q (.bl false) H'))
def spTime : Sp := fun vs H Q _ => ∃ (p o m : Int), vs = [.int p, .int o, .int m] ∧ Q (.bl (decide (1 ≤ p ∧ p ≤ m ∧ 0 ≤ o ∧ o ≤ p - 1))) H
def spWord (C : Addr) : Sp := fun vs H Q _ => ∃ (a : Addr) (z : Str), vs = [.ref a, .str z] ∧ H a = some (exo a C none) ∧ z.length ≤ 100 ∧
  ∀ dx, H dx = none → dx ≠ a → Q .non (upd (upd H dx (exd dx [("word", .str z)])) a (exo a C (some dx)))
def spLimit (C : Addr) : Sp := fun vs H Q _ => ∃ (a : Addr) (i : Int), vs = [.ref a, .int i] ∧ H a = some (exo a C none) ∧ i.natAbs.log2 < 1920 ∧ (Str.ofString (toString i)).length ≤ 100 ∧
  ∀ dx, H dx = none → dx ≠ a → Q .non (upd (upd H dx (exd dx [("limit", .int i)])) a (exo a C (some dx)))
section
variable {P : Program} {w : World} {K : PySem.W.Frag} {mg : Str → Option Value} {base : Heap}
theorem ok_whole {k : Nat} (D : Pr P K mg) : FnOk P w K mg base CX0 (k + 1) D.is_whole.f D.is_whole.fd ["value", "least", "most"] spWhole := by
  refine D.is_whole.F.ok sc_is_whole (fun vs H Q E h => ?_) (fun cdv A outer s H vs Q E hr h => ?_)
  · obtain ⟨x, l, m, rfl, _⟩ := h
    rfl
  · obtain ⟨x, l, m, rfl, hx, q⟩ := h
    refine ⟨_, (pss_cons (ps_if (PW.pt (pw_or (pt_not (pt_val (pe_callB call_isi (by rfl) D.B.isinstance (by decide +kernel) (pa_cons (pv 0) (pa_cons (pe_bltn (v := .ty "int") (u := .type "int") (by rfl) D.B.int (by decide +kernel) rfl) pa_nil))))) (pw_or1 (pt_val (pe_callB call_isi (by rfl) D.B.isinstance (by decide +kernel) (pa_cons (pv 0) (pa_cons (pe_bltn (v := .ty "bool") (u := .type "bool") (by rfl) D.B.bool (by decide +kernel) rfl) pa_nil))))))) (pss_one (ps_ret pe_bl)) pss_nil)
      (pss_one (ps_ret (pe_and (pe_cmpR op_le (pv 1) (pv 0) (nomark _)) (pe_one (pe_or (pe_cmpR op_isN (pv 2) pe_non (nomark _)) (pe_one (pe_cmpR op_le (pv 0) (pv 2) (nomark _))))))))), ?_⟩
    rcases hx with ⟨i, rfl⟩ | ⟨b, rfl⟩
    · refine ⟨_, rfl, _, _, .type "int", _, true, rfl, .ty "int", .base (.int i), kit_ty (by decide +kernel), true, rfl, iteF ?_⟩
      refine ⟨_, rfl, _, _, .type "int", _, false, rfl, .ty "bool", .base (.int i), kit_ty (by decide +kernel), false, rfl, iteF ?_⟩
      refine ⟨_, rfl, _, rfl, _, _, rfl, rfl, _, rfl, ?_⟩
      have q : Q (.bl (decide (l ≤ i) && decide (i ≤ m))) H := q
      by_cases h1 : l ≤ i
      · rw [decide_eq_true h1] at q ⊢
        refine iteT ⟨_, rfl, rfl, false, rfl, iteF ⟨_, rfl, _, rfl, _, _, rfl, rfl, ?_⟩⟩
        rw [Bool.true_and] at q
        exact q
      · rw [decide_eq_false h1] at q ⊢
        exact iteF q
    · refine ⟨_, rfl, _, _, .type "bool", _, true, rfl, .ty "int", .base (.bl b), kit_ty (by decide +kernel), true, rfl, iteF ?_⟩
      refine ⟨_, rfl, _, _, .type "bool", _, true, rfl, .ty "bool", .base (.bl b), kit_ty (by decide +kernel), true, rfl, iteT q⟩
theorem ok_listed {k : Nat} (D : Pr P K mg) : FnOk P w K mg base CX0 (k + 1) D.is_listed.f D.is_listed.fd ["value"] spListed := by
  refine D.is_listed.F.ok sc_is_listed (fun vs H Q E h => ?_) (fun cdv A outer s H vs Q E hr h => ?_)
  · obtain ⟨x, rfl, _⟩ := h
    rfl
  · obtain ⟨x, rfl, hx⟩ := h
    refine ⟨_, (pss_one (ps_ret (pe_callB call_isiT (by rfl) D.B.isinstance (by decide +kernel) (pa_cons (pv 0) (pa_cons (pe_tup (pa_cons (pe_bltn (v := .ty "list") (u := .type "list") (by rfl) D.B.list (by decide +kernel) rfl) (pa_cons (pe_bltn (v := .ty "tuple") (u := .type "tuple") (by rfl) D.B.tuple (by decide +kernel) rfl) pa_nil))) pa_nil))))), ?_⟩
    refine ⟨x, rfl, by show 2 ≤ sizeLine; decide, fun p np => ?_⟩
    have s1 : Same H (upd H p (.tup [.ty "list", .ty "tuple"])) := same_upd np
    have cl : Paired ClsV [.ty "list", .ty "tuple"] [.type "list", .type "tuple"] := .cons (.ty "list") (.cons (.ty "tuple") .nil)
    rcases hx with ⟨a, xs, rfl, hs, q⟩ | ⟨hs, q⟩
    · rcases hs with hs | hs
      · exact ⟨_, p, _, .type "list", _, true, rfl, upd_same, cl, .base (.lst (s1 _ _ hs)), kitAny_cons (b := true) (kit_ty (by decide +kernel)) (fun z => by cases z) (fun _ => rfl), q _ s1⟩
      · exact ⟨_, p, _, .type "tuple", _, true, rfl, upd_same, cl, .base (.tup (s1 _ _ hs)), kitAny_cons (b := false) (kit_ty (by decide +kernel)) (fun _ => kitAny_cons (b := true) (kit_ty (by decide +kernel)) (fun z => by cases z) (fun _ => rfl)) (fun z => by cases z), q _ s1⟩
    · rcases hs with rfl | ⟨i, rfl⟩ | ⟨z, rfl⟩
      · exact ⟨_, p, _, .type "NoneType", _, false, rfl, upd_same, cl, .base .non, kitAny_cons (b := false) (kit_ty (by decide +kernel)) (fun _ => kitAny_cons (b := false) (kit_ty (by decide +kernel)) (fun _ => kitAny_nil) (fun z => by cases z)) (fun z => by cases z), q _ s1⟩
      · exact ⟨_, p, _, .type "int", _, false, rfl, upd_same, cl, .base (.int i), kitAny_cons (b := false) (kit_ty (by decide +kernel)) (fun _ => kitAny_cons (b := false) (kit_ty (by decide +kernel)) (fun _ => kitAny_nil) (fun z => by cases z)) (fun z => by cases z), q _ s1⟩
      · exact ⟨_, p, _, .type "str", _, false, rfl, upd_same, cl, .base (.str z), kitAny_cons (b := false) (kit_ty (by decide +kernel)) (fun _ => kitAny_cons (b := false) (kit_ty (by decide +kernel)) (fun _ => kitAny_nil) (fun z => by cases z)) (fun z => by cases z), q _ s1⟩
theorem ok_time {k : Nat} (D : Pr P K mg) : FnOk P w K mg base CX0 (k + 2) D.is_time.f D.is_time.fd ["period", "offset", "most"] spTime := by
  have G_is_whole : FnOk P w K mg base CX0 (k + 1) D.is_whole.f D.is_whole.fd ["value", "least", "most"] spWhole := ok_whole D
  refine D.is_time.F.ok sc_is_time (fun vs H Q E h => ?_) (fun cdv A outer s H vs Q E hr h => ?_)
  · obtain ⟨p, o, m, rfl, _⟩ := h
    rfl
  · obtain ⟨p, o, m, rfl, q⟩ := h
    refine ⟨_, (pss_one (ps_ret (pe_and (pe_call G_is_whole hr (by rfl) D.is_whole.g D.is_whole.F.kp D.is_whole.b .nil pass0 (pa_cons (pv 0) (pa_cons pe_int (pa_cons (pv 2) pa_nil)))) (pe_one (pe_call G_is_whole hr (by rfl) D.is_whole.g D.is_whole.F.kp D.is_whole.b .nil pass0 (pa_cons (pv 1) (pa_cons pe_int (pa_cons (pe_op op_sub (pv 0) pe_int) pa_nil)))))))), ?_⟩
    refine ⟨.int p, rfl, .int m, rfl, .int p, 1, m, rfl, .inl ⟨p, rfl⟩, _, rfl, ?_⟩
    have e : wholeV 1 m (.int p) = (decide (1 ≤ p) && decide (p ≤ m)) := rfl
    rw [e]
    by_cases h1 : 1 ≤ p ∧ p ≤ m
    · rw [decide_eq_true h1.1, decide_eq_true h1.2]
      refine iteT ⟨.int o, rfl, .int p, rfl, p, 1, rfl, rfl, .int o, 0, p - 1, rfl, .inl ⟨o, rfl⟩, ?_⟩
      have e2 : wholeV 0 (p - 1) (.int o) = decide (1 ≤ p ∧ p ≤ m ∧ 0 ≤ o ∧ o ≤ p - 1) := by
        show (decide (0 ≤ o) && decide (o ≤ p - 1)) = _
        rw [← Bool.decide_and]
        exact decide_eq_decide.mpr ⟨fun z => ⟨h1.1, h1.2, z⟩, fun z => z.2.2⟩
      rw [e2]
      exact q
    · have e3 : (decide (1 ≤ p) && decide (p ≤ m)) = false := by
        rw [← Bool.decide_and]
        exact decide_eq_false h1
      rw [e3]
      refine iteF ?_
      rw [decide_eq_false (fun z => h1 ⟨z.1, z.2.1⟩)] at q
      exact q
/-! ### the exceptions' own __init__ -/
theorem ok_word {k : Nat} (D : Pr P K mg) : FnOk P w K mg base CX0 (k + 1) D.BadNumber.f D.BadNumber.fd ["self", "word"] (spWord D.BadNumber.C) := by
  refine fn_ofI D.BadNumber.T ns_BadNumber_init rfl rfl rfl (fun vs H Q E h => ?_) rfl (fun _ _ _ => ⟨rfl, rfl, ⟨_, rfl⟩, rfl, rfl⟩) (fun cc cda A outer s H vs Q E hr h => ?_)
  · obtain ⟨a, z, rfl, _⟩ := h
    rfl
  · obtain ⟨a, z, rfl, ha, hz, q⟩ := h
    refine ⟨a, _, _, _, rfl, ha, pa_cons (pe_joined (PJ.cons pe_str (PJ.cons (pe_fmt (pv 1)) PJ.nil))) pa_nil, pss_one (ps_ost (pv 0) (pv 1)), ?_⟩
    refine ⟨_, rfl, by rw [lenApp]; exact Nat.le_trans (by decide) (Nat.le_refl _), .str z, rfl, .inl ⟨z, rfl, Nat.le_trans hz (by decide), z, rfl, ?_, ha, by show 1 ≤ 1000; decide, ?_⟩⟩
    · rw [lenApp, lenApp]
      have : sizeLine = 16777216 := sizeLine_eq
      have e : (Str.ofString "out of range: ").length = 14 := by decide
      have e2 : Str.empty.length = 0 := by decide
      omega
    · exact ⟨.str z, rfl, .ref a, rfl, a, D.BadNumber.C, rfl, D.BadNumber.T.O, D.BadNumber.nf _ (by simp), .inl ⟨ha, q⟩⟩
theorem ok_limit {k : Nat} (D : Pr P K mg) : FnOk P w K mg base CX0 (k + 1) D.TooMany.f D.TooMany.fd ["self", "limit"] (spLimit D.TooMany.C) := by
  refine fn_ofI D.TooMany.T ns_TooMany_init rfl rfl rfl (fun vs H Q E h => ?_) rfl (fun _ _ _ => ⟨rfl, rfl, ⟨_, rfl⟩, rfl, rfl⟩) (fun cc cda A outer s H vs Q E hr h => ?_)
  · obtain ⟨a, z, rfl, _⟩ := h
    rfl
  · obtain ⟨a, i, rfl, ha, hi, hz, q⟩ := h
    refine ⟨a, _, _, _, rfl, ha, pa_cons (pe_joined (PJ.cons pe_str (PJ.cons (pe_fmt (pv 1)) PJ.nil))) pa_nil, pss_one (ps_ost (pv 0) (pv 1)), ?_⟩
    refine ⟨_, rfl, by rw [lenApp]; exact Nat.le_trans (by decide) (Nat.le_refl _), .int i, rfl, .inr ⟨i, rfl, hi, toString i, rfl, ?_, ha, by show 1 ≤ 1000; decide, ?_⟩⟩
    · rw [lenApp, lenApp]
      have : sizeLine = 16777216 := sizeLine_eq
      have e : (Str.ofString "more than ").length = 10 := by decide
      have e2 : Str.empty.length = 0 := by decide
      omega
    · exact ⟨.int i, rfl, .ref a, rfl, a, D.TooMany.C, rfl, D.TooMany.T.O, D.TooMany.nf _ (by simp), .inl ⟨ha, q⟩⟩
theorem mkO_word {E : XK} {C : Addr} {H H1 : Hp} {z : Str} (hz : z.length ≤ 100) (h : Rai E C H [("word", .str z)]) (s : Same H H1) :
    [V.str z].length ≤ 1000 ∧ ∀ a, H1 a = none → spWord C (.ref a :: ([V.str z] ++ [])) (upd H1 a (exo a C none)) (fun v H2 => v = .non ∧ ∃ d fs, H2 a = some (exo a C (some d)) ∧ H2 d = some (exd d fs) ∧ H1 d = none ∧ E (.ref C) (some d) (upd (del H2 a) d (.xd fs))) (fun _ _ _ => False) := by
  refine ⟨by show 1 ≤ 1000; decide, fun a na => ⟨a, z, rfl, upd_same, hz, fun dx nx ne => ?_⟩⟩
  rw [upd_ne ne] at nx
  refine ⟨rfl, dx, _, upd_same, by rw [upd_ne ne, upd_same], nx, h dx _ (s.trans (xsame na nx fun b h1 h2 => ?_)) upd_same⟩
  rw [upd_ne h1, upd_ne h2, upd_ne h1]
theorem mkO_limit {E : XK} {C : Addr} {H H1 : Hp} {i : Int} (hi : i.natAbs.log2 < 1920 ∧ (Str.ofString (toString i)).length ≤ 100) (h : Rai E C H [("limit", .int i)]) (s : Same H H1) :
    [V.int i].length ≤ 1000 ∧ ∀ a, H1 a = none → spLimit C (.ref a :: ([V.int i] ++ [])) (upd H1 a (exo a C none)) (fun v H2 => v = .non ∧ ∃ d fs, H2 a = some (exo a C (some d)) ∧ H2 d = some (exd d fs) ∧ H1 d = none ∧ E (.ref C) (some d) (upd (del H2 a) d (.xd fs))) (fun _ _ _ => False) := by
  refine ⟨by show 1 ≤ 1000; decide, fun a na => ⟨a, i, rfl, upd_same, hi.1, hi.2, fun dx nx ne => ?_⟩⟩
  rw [upd_ne ne] at nx
  refine ⟨rfl, dx, _, upd_same, by rw [upd_ne ne, upd_same], nx, h dx _ (s.trans (xsame na nx fun b h1 h2 => ?_)) upd_same⟩
  rw [upd_ne h1, upd_ne h2, upd_ne h1]
end
end K7

set_option Elab.async false
set_option linter.all false
set_option maxRecDepth 100000
set_option maxHeartbeats 4000000
namespace K7
open PySem PySem.Spec PyProof.Rows L2 GX NdefX
/-! ### jobs -/
structure Job where
  r : Nat
  p : Nat
  o : Nat
deriving DecidableEq, Inhabited
structure JOk (j : Job) : Prop where
  r1 : 1 ≤ j.r
  r2 : j.r ≤ 12
  p1 : 1 ≤ j.p
  p2 : j.p ≤ 24
  o1 : j.o < j.p
def jv (j : Job) : List V := [.int (j.r : Nat), .int (j.p : Nat), .int (j.o : Nat)]
def ji (j : Job) : List Int := [(j.r : Nat), (j.p : Nat), (j.o : Nat)]
theorem ji_v (j : Job) : (ji j).map V.int = jv j := rfl
/-- a tuple of tuples: jobs -/
def JobsT (H : Hp) (a : Addr) (js : List Job) : Prop := ∃ ts, H a = some (.tup ts) ∧ TupsT H ts (js.map jv)
theorem JobsT.same {H H' : Hp} {a : Addr} {js : List Job} (s : Same H H') (h : JobsT H a js) : JobsT H' a js := by
  obtain ⟨ts, e, p⟩ := h
  exact ⟨ts, s _ _ e, p.same s⟩
/-- what is handed in as a job: a list of numbers, or a thing that is none -/
def ItAt (H : Hp) (x : V) : Option (List Int) → Prop
  | none => Scal x
  | some ns => ∃ b, x = .ref b ∧ Sq H b (ns.map V.int) ∧ ns.length ≤ 1000
theorem ItAt.same {H H' : Hp} {x : V} {it : Option (List Int)} (s : Same H H') (h : ItAt H x it) : ItAt H' x it := by
  cases it with
  | none => exact h
  | some ns =>
    obtain ⟨b, e, h, l⟩ := h
    exact ⟨b, e, h.same s, l⟩
def goodL : List Int → Bool
  | [r, p, o] => decide (1 ≤ r ∧ r ≤ 12) && decide (1 ≤ p ∧ p ≤ 24 ∧ 0 ≤ o ∧ o ≤ p - 1)
  | _ => false
def goodI : Option (List Int) → Bool
  | some ns => goodL ns
  | none => false
def toJ : Option (List Int) → Job
  | some [r, p, o] => ⟨r.toNat, p.toNat, o.toNat⟩
  | _ => ⟨1, 1, 0⟩
theorem toJ_ok {it : Option (List Int)} (h : goodI it = true) : JOk (toJ it) ∧ it = some (ji (toJ it)) := by
  cases it with
  | none => cases h
  | some ns =>
    match ns, h with
    | [r, p, o], h =>
      have h : (decide (1 ≤ r ∧ r ≤ 12) && decide (1 ≤ p ∧ p ≤ 24 ∧ 0 ≤ o ∧ o ≤ p - 1)) = true := h
      rw [Bool.and_eq_true, decide_eq_true_iff, decide_eq_true_iff] at h
      obtain ⟨⟨h1, h2⟩, h3, h4, h5, h6⟩ := h
      refine ⟨⟨?_, ?_, ?_, ?_, ?_⟩, ?_⟩
      · show 1 ≤ r.toNat; omega
      · show r.toNat ≤ 12; omega
      · show 1 ≤ p.toNat; omega
      · show p.toNat ≤ 24; omega
      · show o.toNat < p.toNat; omega
      · show some [r, p, o] = some [((r.toNat : Nat) : Int), ((p.toNat : Nat) : Int), ((o.toNat : Nat) : Int)]
        rw [Int.toNat_of_nonneg (by omega), Int.toNat_of_nonneg (by omega), Int.toNat_of_nonneg (by omega)]
theorem good_ji {j : Job} (h : JOk j) : goodI (some (ji j)) = true := by
  show (decide (1 ≤ ((j.r : Nat) : Int) ∧ ((j.r : Nat) : Int) ≤ 12) && decide (1 ≤ ((j.p : Nat) : Int) ∧ ((j.p : Nat) : Int) ≤ 24 ∧ 0 ≤ ((j.o : Nat) : Int) ∧ ((j.o : Nat) : Int) ≤ ((j.p : Nat) : Int) - 1)) = true
  have := h.r1; have := h.r2; have := h.p1; have := h.p2; have := h.o1
  rw [decide_eq_true (by omega), decide_eq_true (by omega)]
  rfl
theorem toJ_ji (j : Job) : toJ (some (ji j)) = j := by
  show Job.mk _ _ _ = j
  rw [Int.toNat_natCast, Int.toNat_natCast, Int.toNat_natCast]
/-- what is handed in as jobs -/
def JbAt (H : Hp) (x : V) : Option (List (Option (List Int))) → Prop
  | none => Scal x
  | some its => ∃ a xs, x = .ref a ∧ Sq H a xs ∧ Paired (ItAt H) xs its ∧ its.length ≤ 1000
theorem JbAt.same {H H' : Hp} {x : V} {j : Option (List (Option (List Int)))} (s : Same H H') (h : JbAt H x j) : JbAt H' x j := by
  cases j with
  | none => exact h
  | some its =>
    obtain ⟨a, xs, e, h, p, l⟩ := h
    exact ⟨a, xs, e, h.same s, paired_imp (fun _ _ h => h.same s) p, l⟩
/-- what comes of checking: the jobs, or what is raised -/
inductive Chk where
  | num | many | ok (js : List Job)
def chk : Option (List (Option (List Int))) → Chk
  | none => .num
  | some its => if 5 < its.length then .many else if its.all goodI = true then .ok (its.map toJ) else .num
theorem chk_ok {j : Option (List (Option (List Int)))} {js : List Job} (h : chk j = .ok js) : js.length ≤ 5 ∧ ∀ x ∈ js, JOk x := by
  cases j with
  | none => cases h
  | some its =>
    have h : (if 5 < its.length then Chk.many else if its.all goodI = true then .ok (its.map toJ) else .num) = .ok js := h
    by_cases h5 : 5 < its.length
    · rw [if_pos h5] at h; cases h
    · rw [if_neg h5] at h
      by_cases hg : its.all goodI = true
      · rw [if_pos hg] at h
        cases h
        refine ⟨by rw [List.length_map]; omega, fun x hx => ?_⟩
        obtain ⟨it, hi, rfl⟩ := List.mem_map.mp hx
        exact (toJ_ok (List.all_eq_true.mp hg it hi)).1
      · rw [if_neg hg] at h; cases h
/-- what a def that checks jobs first promises -/
def Chkd (CN CM : Addr) (E : XK) (H : Hp) (ok : List Job → Prop) : Chk → Prop
  | .num => Rai E CN H [("word", .str "jobs")]
  | .many => Rai E CM H [("limit", .int 5)]
  | .ok js => ok js
def spCheck (CN CM : Addr) : Sp := fun vs H Q E => ∃ x j, vs = [x] ∧ JbAt H x j ∧ Chkd CN CM E H (fun js => ∀ a H', Same H H' → JobsT H' a js → Q (.ref a) H') (chk j)
theorem paired_range {α : Type} {T : Nat → α → Prop} {β : Type} {G : α → β → Prop} {ys : List β} : ∀ {ts : List α} {n : Nat}, Paired (fun x i => T i x) ts (List.range n) → n = ys.length → (∀ i x y, ys[i]? = some y → T i x → G x y) → Paired G ts ys := by
  intro ts n p e k
  subst e
  have key : ∀ {m s : List Nat} {ts : List α} (ys' : List β), Paired (fun x i => T i x) ts m → m.length = ys'.length → (∀ (j i : Nat) (y : β), m[j]? = some i → ys'[j]? = some y → ys[i]? = some y) → Paired G ts ys' := by
    intro m s ts ys' p
    induction p generalizing ys' with
    | nil =>
      intro l _
      cases ys' with
      | nil => exact .nil
      | cons _ _ => cases l
    | cons f r ih =>
      intro l h
      cases ys' with
      | nil => cases l
      | cons y ys' =>
        exact .cons (k _ _ _ (h 0 _ _ rfl rfl) f) (ih ys' (by simpa using l) fun j i y h1 h2 => h (j + 1) i y h1 h2)
  refine key (s := []) ys p (by rw [List.length_range]) fun j i y h1 h2 => ?_
  rw [List.getElem?_range] at h1
  · cases h1; exact h2
  · exact (List.getElem?_eq_some_iff.mp h2).1
section
variable {P : Program} {w : World} {K : PySem.W.Frag} {mg : Str → Option Value} {base : Heap}
theorem ok_check_jobs {k : Nat} (D : Pr P K mg) : FnOk P w K mg base (CX P w) (k + 3) D.check_jobs.f D.check_jobs.fd ["jobs"] (spCheck D.BadNumber.C D.TooMany.C) := by
  have G_is_whole : FnOk P w K mg base CX0 (k + 1) D.is_whole.f D.is_whole.fd ["value", "least", "most"] spWhole := ok_whole D
  have G_is_listed : FnOk P w K mg base CX0 (k + 1) D.is_listed.f D.is_listed.fd ["value"] spListed := ok_listed D
  have G_is_time : FnOk P w K mg base CX0 (k + 2) D.is_time.f D.is_time.fd ["period", "offset", "most"] spTime := ok_time D
  have GX_BadNumber : FnOk P w K mg base CX0 (k + 1) D.BadNumber.f D.BadNumber.fd ["self", "word"] (spWord D.BadNumber.C) := ok_word D
  have GX_TooMany : FnOk P w K mg base CX0 (k + 1) D.TooMany.f D.TooMany.fd ["self", "limit"] (spLimit D.TooMany.C) := ok_limit D
  refine D.check_jobs.F.okX sc_check_jobs (fun vs H Q E h => ?_) (fun cdv A outer s H vs Q E hr h => ?_)
  · obtain ⟨x, j, rfl, _⟩ := h
    rfl
  · obtain ⟨x, j, rfl, hj, h⟩ := h
    refine ⟨_, (pss_cons (ps_if (pt_not (pt_val (pe_call G_is_listed (hr.mono (by omega)) (by rfl) D.is_listed.g D.is_listed.F.kp D.is_listed.b .nil pass0 (pa_cons (pv 0) pa_nil)))) (pss_one (ps_raise rfl (takes_of rfl rfl rfl rfl) (pmk_oex D.BadNumber.T.O D.BadNumber.T.iC D.BadNumber.T.tI GX_BadNumber (hr.mono (by omega)) D.BadNumber.b .nil pass0 (by rfl) D.BadNumber.g (pa_cons pe_str pa_nil)))) pss_nil)
      (pss_cons (ps_if (pt_cmpR op_gt (pe_callB call_len (by rfl) D.B.len PySem.boot_len (pa_cons (pv 0) pa_nil)) pe_int (nomark _)) (pss_one (ps_raise rfl (takes_of rfl rfl rfl rfl) (pmk_oex D.TooMany.T.O D.TooMany.T.iC D.TooMany.T.tI GX_TooMany (hr.mono (by omega)) D.TooMany.b .nil pass0 (by rfl) D.TooMany.g (pa_cons pe_int pa_nil)))) pss_nil)
      (pss_cons (ps_for (by passes_own) rfl (pi_seq (pv 0)) (pg_name (i := 1) sc_check_jobs.nd rfl (.inl rfl)) (pss_one (ps_if (PW.pt (pw_or (pt_not (pt_val (pe_call G_is_listed (hr.mono (by omega)) (by rfl) D.is_listed.g D.is_listed.F.kp D.is_listed.b .nil pass0 (pa_cons (pv 1) pa_nil)))) (pw_or (pt_cmpR op_ne (pe_callB call_len (by rfl) D.B.len PySem.boot_len (pa_cons (pv 1) pa_nil)) pe_int (nomark _)) (pw_or (pt_not (pt_val (pe_call G_is_whole (hr.mono (by omega)) (by rfl) D.is_whole.g D.is_whole.F.kp D.is_whole.b .nil pass0 (pa_cons (pe_ix (r := rIx K) ix_seq (pv 1) pe_int (fun _ _ => rfl)) (pa_cons pe_int (pa_cons pe_int pa_nil)))))) (pw_or1 (pt_not (pt_val (pe_call G_is_time hr (by rfl) D.is_time.g D.is_time.F.kp D.is_time.b .nil pass0 (pa_cons (pe_ix (r := rIx K) ix_seq (pv 1) pe_int (fun _ _ => rfl)) (pa_cons (pe_ix (r := rIx K) ix_seq (pv 1) pe_int (fun _ _ => rfl)) (pa_cons pe_int pa_nil))))))))))) (pss_one (ps_raise rfl (takes_of rfl rfl rfl rfl) (pmk_oex D.BadNumber.T.O D.BadNumber.T.iC D.BadNumber.T.tI GX_BadNumber (hr.mono (by omega)) D.BadNumber.b .nil pass0 (by rfl) D.BadNumber.g (pa_cons pe_str pa_nil)))) pss_nil)))
      (pss_one (ps_ret (pe_callTy call_tuple_of (by rfl) D.B.tuple (by decide +kernel) (pa_cons (pe_lc (own := [("job", 1)]) (g := (gName 1)) (tt := tYes) rfl sc_check_jobs.nd (pi_seq (pv 0)) (blkOk_by (own := [("job", 1)]) (N := n_check_jobs) (sc := defScope s_check_jobs) (by decide +kernel)) (fun _ _ _ _ _ => (pg_name (i := 1) sc_check_jobs.nd rfl (.inl rfl))) (fun _ _ _ _ _ => pts_nil) (fun _ _ _ _ _ => (pe_callTy (r := rTupOf K) call_tuple_of (by rfl) D.B.tuple (by decide +kernel) (pa_cons (pv 1) pa_nil)))) pa_nil))))))), ?_⟩
    cases j with
    | none => exact ⟨x, rfl, x, rfl, .inr ⟨hj, fun H1 s1 => ⟨_, rfl, iteT (mkO_word (by decide) (h.same s1) (Same.refl _))⟩⟩⟩
    | some its =>
      obtain ⟨a, xs, rfl, hq, pl, hl⟩ := hj
      have lx : xs.length = its.length := pl.length
      refine ⟨.ref a, rfl, .ref a, rfl, .inl ⟨a, xs, rfl, hq, fun H1 s1 => ⟨_, rfl, iteF ?_⟩⟩⟩
      refine ⟨.ref a, rfl, .ref a, its.length, rfl, lenV_sq (hq.same s1) lx, its.length, 5, rfl, rfl, _, rfl, ?_⟩
      by_cases h5 : 5 < its.length
      · rw [decide_eq_true (by omega)]
        have h : Rai E D.TooMany.C H [("limit", .int 5)] := by
          have e : chk (some its) = .many := if_pos h5
          rw [e] at h
          exact h
        exact iteT (mkO_limit (by decide) (h.same s1) (Same.refl _))
      rw [decide_eq_false (by omega)]
      have bad : ∀ it ∈ its, goodI it = false → Rai E D.BadNumber.C H [("word", .str "jobs")] := fun it hi hb => by
        have e : chk (some its) = .num := by
          show (if 5 < its.length then Chk.many else if its.all goodI = true then .ok (its.map toJ) else .num) = .num
          rw [if_neg h5, if_neg fun z => by rw [List.all_eq_true.mp z it hi] at hb; cases hb]
        rw [e] at h
        exact h
      refine iteF ⟨.ref a, rfl, a, xs, rfl, forSeq (D := { nx := _, rt := Q }) (fun i σ H' => (∃ c1, σ = [some (.ref a), c1]) ∧ Same H1 H' ∧ ∀ k it, k < i → its[k]? = some it → goodI it = true) (hq.same s1) ⟨⟨_, rfl⟩, Same.refl _, fun k it h => absurd h (by omega)⟩ (fun i σ H' o p e => p.2.1 _ _ e) ?_ ?_⟩
      · rintro i y σ H2 hy ⟨⟨c1, rfl⟩, s2', hp⟩
        have s2 := s1.trans s2'
        obtain ⟨it, hit, hy2⟩ := paired_get pl hy
        have him : it ∈ its := List.mem_of_getElem? hit
        have fin : ∀ H3, Same H2 H3 → goodI it = true → (∃ c1, [some (V.ref a), some y] = [some (V.ref a), c1]) ∧ Same H1 H3 ∧ ∀ k it, k < i + 1 → its[k]? = some it → goodI it = true := fun H3 s3 hg => by
          refine ⟨⟨_, rfl⟩, s2'.trans s3, fun k it2 hk h2 => ?_⟩
          by_cases e : k = i
          · subst e
            rw [hit] at h2
            cases h2
            exact hg
          · exact hp k it2 (by omega) h2
        cases it with
        | none => exact ⟨y, rfl, y, rfl, .inr ⟨hy2, fun H3 s3 => ⟨_, rfl, iteT (mkO_word (by decide) ((bad _ him rfl).same (s2.trans s3)) (Same.refl _))⟩⟩⟩
        | some ns =>
          obtain ⟨b, rfl, hb, hnl⟩ := hy2
          have hb := hb.same s2
          refine ⟨.ref b, rfl, .ref b, rfl, .inl ⟨b, _, rfl, hb, fun H3 s3 => ⟨_, rfl, iteF ?_⟩⟩⟩
          have hb3 := hb.same s3
          have s03 := s2.trans s3
          refine ⟨.ref b, rfl, .ref b, ns.length, rfl, lenV_sq hb3 (List.length_map _), rfl, _, rfl, ?_⟩
          by_cases h3 : ns.length = 3
          case neg =>
            refine iteTq (by rw [decide_eq_false fun e => h3 (by have := V.int.inj e; omega)]; rfl) (mkO_word (by decide) ((bad _ him ?_).same s03) (Same.refl _))
            match ns, h3 with
            | [], _ => rfl
            | [_], _ => rfl
            | [_, _], _ => rfl
            | [_, _, _], h3 => exact absurd rfl h3
            | _ :: _ :: _ :: _ :: _, _ => rfl
          refine iteFq (by rw [decide_eq_true (by rw [h3]; rfl)]; rfl) ?_
          match ns, h3, hb3, fin, him with
          | [r, p, o], _, hb3, fin, him =>
            refine ⟨.ref b, rfl, rIx_sq hb3 (i := 0) rfl rfl ⟨.int r, 1, 12, rfl, .inl ⟨r, rfl⟩, _, rfl, ?_⟩⟩
            have e : wholeV 1 12 (.int r) = decide (1 ≤ r ∧ r ≤ 12) := (Bool.decide_and _ _).symm
            rw [e]
            have eg : goodI (some [r, p, o]) = (decide (1 ≤ r ∧ r ≤ 12) && decide (1 ≤ p ∧ p ≤ 24 ∧ 0 ≤ o ∧ o ≤ p - 1)) := rfl
            by_cases hr1 : 1 ≤ r ∧ r ≤ 12
            case neg =>
              rw [decide_eq_false hr1] at eg ⊢
              exact iteT (mkO_word (by decide) ((bad _ him eg).same s03) (Same.refl _))
            rw [decide_eq_true hr1] at eg ⊢
            refine iteF ⟨.ref b, rfl, rIx_sq hb3 (i := 1) rfl rfl ⟨.ref b, rfl, rIx_sq hb3 (i := 2) rfl rfl ⟨p, o, 24, rfl, _, rfl, ?_⟩⟩⟩
            by_cases hp1 : 1 ≤ p ∧ p ≤ 24 ∧ 0 ≤ o ∧ o ≤ p - 1
            case neg =>
              rw [decide_eq_false hp1] at eg ⊢
              exact iteT (mkO_word (by decide) ((bad _ him eg).same s03) (Same.refl _))
            rw [decide_eq_true hp1] at eg ⊢
            exact iteF (fin H3 s3 eg)
      · rintro σ H2 ⟨⟨c1, rfl⟩, s2', hp⟩
        have s2 := s1.trans s2'
        have hg : its.all goodI = true := List.all_eq_true.mpr fun it hi => by
          obtain ⟨k, hk, e⟩ := List.getElem_of_mem hi
          exact hp k it (by omega) (by rw [List.getElem?_eq_getElem hk, e])
        have q : ∀ a H', Same H H' → JobsT H' a (its.map toJ) → Q (.ref a) H' := by
          have e : chk (some its) = .ok (its.map toJ) := by
            show (if 5 < its.length then Chk.many else if its.all goodI = true then .ok (its.map toJ) else .num) = _
            rw [if_neg h5, if_pos hg]
          rw [e] at h
          exact h
        refine ⟨.ref a, rfl, a, xs, rfl, lcSeqP (T := fun i H x => ∀ it, its[i]? = some it → TupT H x (jv (toJ it))) (fun i H H' x s h it hi => (h it hi).same s) (fun D i H x us ys e _ h it hi => tup_upd e (h it hi)) (hq.same s2) (by omega) (fun D i y H3 Qk Qn hy s3 nD eD hk => ?_) (fun D H3 ts nD s3 eD pt => ?_)⟩
        · obtain ⟨it, hit, hy2⟩ := paired_get pl hy
          have hgi := List.all_eq_true.mp hg it (List.mem_of_getElem? hit)
          obtain ⟨_, ei⟩ := toJ_ok hgi
          rw [ei] at hy2
          obtain ⟨b, rfl, hb, _⟩ := hy2
          refine ⟨rfl, iteT (B := Qn H3) ⟨.ref b, rfl, tupOf (hb.same (s2.trans s3)) fun p H4 s4 e4 => hk _ H4 (fun it2 h2 => ?_) s4⟩⟩
          rw [hit] at h2
          cases h2
          exact ⟨p, rfl, e4⟩
        · refine ⟨D, ts, rfl, .inl ⟨sqL eD, fun l nl => q l _ (s2.trans (s3.trans (same_upd nl))) ⟨ts, upd_same, ?_⟩⟩⟩
          rw [List.map_map]
          exact TupsT.same (same_upd nl) (paired_map (paired_range pt lx fun i x it hi h => h it hi))
end
end K7

set_option Elab.async false
set_option linter.all false
set_option maxRecDepth 100000
set_option maxHeartbeats 4000000
namespace K7
/-! ### jobs run tick by tick -/
def comes (j : Job) (t : Nat) : Bool := t % j.p == j.o
def come1 (t : Nat) (j : Job) (x : Nat) : Nat := if comes j t = true then x + j.r else x
/-- what is left when the jobs of tick t have come -/
def arr (js : List Job) (t : Nat) (l : List Nat) : List Nat := List.zipWith (come1 t) js l
/-- the first place that has something left -/
def runW : List Nat → Option Nat
  | [] => none
  | 0 :: l => (runW l).map (· + 1)
  | (_ + 1) :: _ => some 0
def runL : List Nat → List Nat
  | [] => []
  | 0 :: l => 0 :: runL l
  | (x + 1) :: l => x :: l
def nextL (js : List Job) (t : Nat) (l : List Nat) : List Nat := runL (arr js t l)
def lefts (js : List Job) : Nat → List Nat
  | 0 => List.replicate js.length 0
  | t + 1 => nextL js t (lefts js t)
def whoR (js : List Job) (t : Nat) : Option Nat := runW (arr js t (lefts js t))
def whoV : Option Nat → Int
  | some i => (i : Nat)
  | none => -1
/-- the first place whose job comes while something is left of the one before -/
def missF (t : Nat) : Nat → List Job → List Nat → Option Nat
  | i, j :: js, x :: l => if comes j t = true ∧ 0 < x then some i else missF t (i + 1) js l
  | _, _, _ => none
def miss (js : List Job) (t : Nat) (l : List Nat) : Option Nat := missF t 0 js l
/-- the first miss ahead of tick T -/
def fm (js : List Job) : Nat → Option (Nat × Nat)
  | 0 => none
  | t + 1 => match fm js t with
    | some m => some m
    | none => (miss js t (lefts js t)).map fun i => (i, t)
theorem arr_len {js : List Job} {t : Nat} {l : List Nat} (h : l.length = js.length) : (arr js t l).length = js.length := by
  unfold arr; rw [List.length_zipWith, h]; omega
theorem runL_len : ∀ l : List Nat, (runL l).length = l.length
  | [] => rfl
  | 0 :: l => by show (runL l).length + 1 = _; rw [runL_len l]; rfl
  | (_ + 1) :: _ => rfl
theorem nextL_len {js : List Job} {t : Nat} {l : List Nat} (h : l.length = js.length) : (nextL js t l).length = js.length := by
  unfold nextL; rw [runL_len, arr_len h]
theorem lefts_len (js : List Job) : ∀ t, (lefts js t).length = js.length
  | 0 => List.length_replicate ..
  | t + 1 => nextL_len (lefts_len js t)
theorem arr_get {js : List Job} {t : Nat} {l : List Nat} {i : Nat} {j : Job} {x : Nat} (hj : js[i]? = some j) (hx : l[i]? = some x) : (arr js t l)[i]? = some (come1 t j x) := by
  unfold arr; rw [List.getElem?_zipWith, hj, hx]
/-- the jobs up to i have come -/
def part (js : List Job) (t : Nat) (l : List Nat) (i : Nat) : List Nat := (arr js t l).take i ++ l.drop i
theorem part_len {js : List Job} {t : Nat} {l : List Nat} (h : l.length = js.length) {i : Nat} (hi : i ≤ js.length) : (part js t l i).length = js.length := by
  unfold part; rw [List.length_append, List.length_take, List.length_drop, arr_len h, h]; omega
theorem part_get {js : List Job} {t : Nat} {l : List Nat} (h : l.length = js.length) {i : Nat} (hi : i < js.length) : (part js t l i)[i]? = l[i]? := by
  unfold part
  have e : ((arr js t l).take i).length = i := by rw [List.length_take, arr_len h]; omega
  rw [List.getElem?_append_right (by omega), e, Nat.sub_self, List.getElem?_drop]
  rfl
theorem set_mid {α : Type} (a : List α) (x y : α) (b : List α) : (a ++ x :: b).set a.length y = a ++ y :: b := by
  rw [List.set_append]; simp
theorem part_succ {js : List Job} {t : Nat} {l : List Nat} (h : l.length = js.length) {i : Nat} {j : Job} {x : Nat} (hj : js[i]? = some j) (hx : l[i]? = some x) : part js t l (i + 1) = (part js t l i).set i (come1 t j x) := by
  have hi : i < js.length := (List.getElem?_eq_some_iff.mp hj).1
  have e : ((arr js t l).take i).length = i := by rw [List.length_take, arr_len h]; omega
  have d : l.drop i = x :: l.drop (i + 1) := by
    obtain ⟨hl, e⟩ := List.getElem?_eq_some_iff.mp hx
    rw [List.drop_eq_getElem_cons hl, e]
  have tk : (arr js t l).take (i + 1) = (arr js t l).take i ++ [come1 t j x] := by
    rw [List.take_add_one, arr_get hj hx]; rfl
  unfold part
  rw [d, tk]
  have := set_mid ((arr js t l).take i) x (come1 t j x) (l.drop (i + 1))
  rw [e] at this
  rw [this, List.append_assoc]
  rfl
theorem part_zero {js : List Job} {t : Nat} {l : List Nat} : part js t l 0 = l := rfl
theorem part_all {js : List Job} {t : Nat} {l : List Nat} (h : l.length = js.length) : part js t l js.length = arr js t l := by
  unfold part
  rw [List.take_of_length_le (by rw [arr_len h]; omega), List.drop_of_length_le (by omega), List.append_nil]
theorem part_same {js : List Job} {t : Nat} {l : List Nat} (h : l.length = js.length) {i : Nat} {j : Job} {x : Nat} (hj : js[i]? = some j) (hx : l[i]? = some x) (hc : comes j t = false) : part js t l (i + 1) = part js t l i := by
  have hi : i < js.length := (List.getElem?_eq_some_iff.mp hj).1
  rw [part_succ h hj hx]
  have e : (part js t l i)[i]? = some (come1 t j x) := by
    rw [part_get h hi, hx]; unfold come1; rw [hc]; rfl
  obtain ⟨hl, e⟩ := List.getElem?_eq_some_iff.mp e
  conv => lhs; rw [← e]
  exact List.set_getElem_self hl
/-- the first miss among the jobs up to i -/
theorem missF_take {t : Nat} : ∀ (js : List Job) (l : List Nat) (s : Nat), l.length = js.length → ∀ i j x, js[i]? = some j → l[i]? = some x → missF t s (js.take (i + 1)) (l.take (i + 1)) = match missF t s (js.take i) (l.take i) with
    | some m => some m
    | none => if comes j t = true ∧ 0 < x then some (s + i) else none
  | [], _, _, _, i, j, x, hj, _ => by simp at hj
  | j0 :: js, [], _, h, _, _, _, _, _ => by simp at h
  | j0 :: js, x0 :: l, s, h, 0, j, x, hj, hx => by
    obtain rfl : j0 = j := by simpa using hj
    obtain rfl : x0 = x := by simpa using hx
    show (if _ then some s else missF t (s + 1) [] []) = if _ then some (s + 0) else none
    rfl
  | j0 :: js, x0 :: l, s, h, i + 1, j, x, hj, hx => by
    show (if comes j0 t = true ∧ 0 < x0 then some s else missF t (s + 1) (js.take (i + 1)) (l.take (i + 1))) = match (if comes j0 t = true ∧ 0 < x0 then some s else missF t (s + 1) (js.take i) (l.take i)) with | some m => some m | none => if comes j t = true ∧ 0 < x then some (s + (i + 1)) else none
    by_cases c : comes j0 t = true ∧ 0 < x0
    · rw [if_pos c, if_pos c]
    · rw [if_neg c, if_neg c, missF_take js l (s + 1) (by simpa using h) i j x (by simpa using hj) (by simpa using hx), show s + 1 + i = s + (i + 1) by omega]
def missP (js : List Job) (t : Nat) (l : List Nat) (i : Nat) : Option Nat := missF t 0 (js.take i) (l.take i)
theorem missP_succ {js : List Job} {t : Nat} {l : List Nat} (h : l.length = js.length) {i : Nat} {j : Job} {x : Nat} (hj : js[i]? = some j) (hx : l[i]? = some x) : missP js t l (i + 1) = match missP js t l i with
    | some m => some m
    | none => if comes j t = true ∧ 0 < x then some i else none := by
  have := missF_take js l 0 h i j x hj hx (t := t)
  rw [Nat.zero_add] at this
  exact this
theorem missP_all {js : List Job} {t : Nat} {l : List Nat} (h : l.length = js.length) : missP js t l js.length = miss js t l := by
  unfold missP miss
  rw [List.take_length, List.take_of_length_le (by omega)]
/-- the run -/
theorem run_hit : ∀ (b : List Nat) (i x : Nat), (∀ k, k < i → b[k]? = some 0) → b[i]? = some (x + 1) → runL b = b.set i x ∧ runW b = some i
  | [], i, x, _, h => by simp at h
  | 0 :: b, 0, x, _, h => by simp at h
  | (y + 1) :: b, 0, x, _, h => by
    obtain rfl : y = x := by simpa using h
    exact ⟨rfl, rfl⟩
  | y :: b, i + 1, x, h0, h => by
    obtain rfl : y = 0 := by simpa using h0 0 (by omega)
    obtain ⟨e1, e2⟩ := run_hit b i x (fun k hk => by simpa using h0 (k + 1) (by omega)) (by simpa using h)
    refine ⟨?_, ?_⟩
    · show 0 :: runL b = 0 :: b.set i x; rw [e1]
    · show (runW b).map (· + 1) = some (i + 1); rw [e2]; rfl
theorem run_none : ∀ b : List Nat, (∀ k, k < b.length → b[k]? = some 0) → runL b = b ∧ runW b = none
  | [], _ => ⟨rfl, rfl⟩
  | y :: b, h0 => by
    obtain rfl : y = 0 := by simpa using h0 0 (by simp)
    obtain ⟨e1, e2⟩ := run_none b fun k hk => by simpa using h0 (k + 1) (by simpa using hk)
    refine ⟨?_, ?_⟩
    · show 0 :: runL b = 0 :: b; rw [e1]
    · show (runW b).map (· + 1) = none; rw [e2]; rfl
end K7

set_option Elab.async false
set_option linter.all false
set_option maxRecDepth 100000
set_option maxHeartbeats 4000000
namespace K7
open PySem PySem.Spec PyProof.Rows L2 GX NdefX
/-! ### a clock -/
def spWholeN : Sp := fun vs H Q _ => ∃ (i l : Int), vs = [.int i, .int l, .non] ∧ Q (.bl (decide (l ≤ i))) H
theorem jl : ¬ (("jobs" : Str) = "left") := by decide +kernel
theorem jt : ¬ (("jobs" : Str) = "tick") := by decide +kernel
theorem jm : ¬ (("jobs" : Str) = "missed") := by decide +kernel
theorem tl : ¬ (("tick" : Str) = "left") := by decide +kernel
theorem tm : ¬ (("tick" : Str) = "missed") := by decide +kernel
theorem lm : ¬ (("left" : Str) = "missed") := by decide +kernel
def cf (a : Addr) (t : Nat) (L : Addr) (mv : V) : List (Str × V) := putF "missed" mv (putF "left" (.ref L) (putF "tick" (.int (t : Nat)) (putF "jobs" (.ref a) [])))
theorem cf_eq (a : Addr) (t : Nat) (L : Addr) (mv : V) : cf a t L mv = ([("jobs", V.ref a), ("tick", V.int (t : Nat)), ("left", V.ref L), ("missed", mv)] : List (Str × V)) := by
  simp [cf, putF, jt, jl, jm, tl, tm, lm]
theorem cf_jobs (a : Addr) (t : Nat) (L : Addr) (mv : V) : (cf a t L mv).lookup ("jobs" : Str) = some (.ref a) := by
  unfold cf
  rw [lookup_putF, if_neg jm, lookup_putF, if_neg jl, lookup_putF, if_neg jt, lookup_putF, if_pos rfl]
theorem cf_tick (a : Addr) (t : Nat) (L : Addr) (mv : V) : (cf a t L mv).lookup ("tick" : Str) = some (.int (t : Nat)) := by
  unfold cf
  rw [lookup_putF, if_neg tm, lookup_putF, if_neg tl, lookup_putF, if_pos rfl]
theorem cf_left (a : Addr) (t : Nat) (L : Addr) (mv : V) : (cf a t L mv).lookup ("left" : Str) = some (.ref L) := by
  unfold cf
  rw [lookup_putF, if_neg lm, lookup_putF, if_pos rfl]
theorem cf_missed (a : Addr) (t : Nat) (L : Addr) (mv : V) : (cf a t L mv).lookup ("missed" : Str) = some mv := by
  unfold cf
  rw [lookup_putF, if_pos rfl]
theorem cf_no (a : Addr) (t : Nat) (L : Addr) (mv : V) {m : Str} (h1 : ¬ m = "jobs") (h2 : ¬ m = "tick") (h3 : ¬ m = "left") (h4 : ¬ m = "missed") : (cf a t L mv).lookup m = none := by
  unfold cf
  rw [lookup_putF, if_neg h4, lookup_putF, if_neg h3, lookup_putF, if_neg h2, lookup_putF, if_neg h1]
  rfl
theorem cf_put_tick (a : Addr) (t t' : Nat) (L : Addr) (mv : V) : putF "tick" (.int (t' : Nat)) (cf a t L mv) = cf a t' L mv := by
  rw [cf_eq, cf_eq]
  simp [putF, jt]
theorem cf_put_missed (a : Addr) (t : Nat) (L : Addr) (mv mv' : V) : putF "missed" mv' (cf a t L mv) = cf a t L mv' := by
  rw [cf_eq, cf_eq]
  simp [putF, jm, tm, lm]
theorem cf_len (a : Addr) (t : Nat) (L : Addr) (mv : V) : (cf a t L mv).length < 1000 := by rw [cf_eq]; show 4 < 1000; decide
/-- the miss as the clock holds it -/
def MisV (H : Hp) (x : V) : Option (Nat × Nat) → Prop
  | none => x = .non
  | some (i, t) => ∃ T, x = .ref T ∧ H T = some (.tup [.int (i : Nat), .int (t : Nat)])
/-- all but the clock c and its list L stand as they stood -/
def K2 (c L : Addr) (H H' : Hp) : Prop := ∀ b o, b ≠ c → b ≠ L → H b = some o → H' b = some o
theorem K2.refl {c L : Addr} {H : Hp} : K2 c L H H := fun _ _ _ _ e => e
theorem K2.trans {c L : Addr} {H1 H2 H3 : Hp} (h : K2 c L H1 H2) (k : K2 c L H2 H3) : K2 c L H1 H3 := fun b o n m e => k b o n m (h b o n m e)
theorem k2_of {c L : Addr} {H H' : Hp} (s : Same H H') : K2 c L H H' := fun b o _ _ e => s b o e
/-- at c stands a clock: its list of what is left at L, its jobs at a -/
structure Ck (C : Addr) (H : Hp) (c L a : Addr) (js : List Job) (t : Nat) (l : List Nat) (m : Option (Nat × Nat)) : Prop where
  ob : ∃ dx mv, H c = some (.ins C dx (cf a t L mv)) ∧ MisV H mv m
  lst : H L = some (.lst (nts l))
  jobs : JobsT H a js
  len : l.length = js.length
theorem tup_k2 {c L b : Addr} {H H' : Hp} {C dx : Addr} {fs : List (Str × V)} {xs ys : List V} (k : K2 c L H H') (hc : H c = some (.ins C dx fs)) (hL : H L = some (.lst xs)) (h : H b = some (.tup ys)) : H' b = some (.tup ys) :=
  k b _ (ne_of h hc (by intro q; cases q)) (ne_of h hL (by intro q; cases q)) h
theorem TupsT.k2 {c L : Addr} {H H' : Hp} {C dx : Addr} {fs : List (Str × V)} {xs : List V} (k : K2 c L H H') (hc : H c = some (.ins C dx fs)) (hL : H L = some (.lst xs)) {ts : List V} {ls : List (List V)} (h : TupsT H ts ls) : TupsT H' ts ls :=
  paired_imp (fun x c ⟨b, e, hb⟩ => ⟨b, e, tup_k2 k hc hL hb⟩) h
theorem JobsT.k2 {c L a : Addr} {H H' : Hp} {C dx : Addr} {fs : List (Str × V)} {xs : List V} {js : List Job} (k : K2 c L H H') (hc : H c = some (.ins C dx fs)) (hL : H L = some (.lst xs)) (h : JobsT H a js) : JobsT H' a js := by
  obtain ⟨ts, e, p⟩ := h
  exact ⟨ts, tup_k2 k hc hL e, p.k2 k hc hL⟩
theorem MisV.k2 {c L : Addr} {H H' : Hp} {C dx : Addr} {fs : List (Str × V)} {xs : List V} {x : V} {m : Option (Nat × Nat)} (k : K2 c L H H') (hc : H c = some (.ins C dx fs)) (hL : H L = some (.lst xs)) (h : MisV H x m) : MisV H' x m := by
  cases m with
  | none => exact h
  | some m =>
    obtain ⟨T, e, hT⟩ := h
    exact ⟨T, e, tup_k2 k hc hL hT⟩
theorem MisV.same {H H' : Hp} {x : V} {m : Option (Nat × Nat)} (s : Same H H') (h : MisV H x m) : MisV H' x m := by
  cases m with
  | none => exact h
  | some m =>
    obtain ⟨T, e, hT⟩ := h
    exact ⟨T, e, s _ _ hT⟩
theorem Ck.same {C c L a : Addr} {H H' : Hp} {js : List Job} {t : Nat} {l : List Nat} {m : Option (Nat × Nat)} (s : Same H H') (h : Ck C H c L a js t l m) : Ck C H' c L a js t l m := by
  obtain ⟨⟨dx, mv, e, hm⟩, hl, hj, ln⟩ := h
  exact ⟨⟨dx, mv, s _ _ e, hm.same s⟩, s _ _ hl, hj.same s, ln⟩
def spInit (C : Addr) : Sp := fun vs H Q _ => ∃ (c a dx : Addr) (js : List Job), vs = [.ref c, .ref a] ∧ H c = some (.ins C dx []) ∧ JobsT H a js ∧ js.length ≤ 1000 ∧
  ∀ H' L, (∀ b o, b ≠ c → H b = some o → H' b = some o) → H L = none → Ck C H' c L a js 0 (List.replicate js.length 0) none → Q .non H'
def mNext (m : Option (Nat × Nat)) (x : Option Nat) (t : Nat) : Option (Nat × Nat) := match m with
  | some m => some m
  | none => x.map fun i => (i, t)
def spTick (C : Addr) : Sp := fun vs H Q _ => ∃ (c L a : Addr) (js : List Job) (t : Nat) (l : List Nat) (m : Option (Nat × Nat)), vs = [.ref c] ∧ Ck C H c L a js t l m ∧ (∀ j ∈ js, JOk j) ∧ js.length ≤ 1000 ∧
  ∀ H', K2 c L H H' → Ck C H' c L a js (t + 1) (nextL js t l) (mNext m (miss js t l) t) → Q (.int (whoV (runW (arr js t l)))) H'
def spPlace (CN : Addr) : Sp := fun vs H Q E => ∃ (a : Addr) (xs : List V) (i : Int), vs = [.ref a, .int i] ∧ H a = some (.tup xs) ∧ xs.length ≤ 1000 ∧ (if 0 ≤ i ∧ i < xs.length then Q .non H else Rai E CN H [("word", .str "place")])
section
variable {P : Program} {w : World} {K : PySem.W.Frag} {mg : Str → Option Value} {base : Heap}
theorem ok_wholeN {k : Nat} (D : Pr P K mg) : FnOk P w K mg base CX0 (k + 1) D.is_whole.f D.is_whole.fd ["value", "least", "most"] spWholeN := by
  refine D.is_whole.F.ok sc_is_whole (fun vs H Q E h => ?_) (fun cdv A outer s H vs Q E hr h => ?_)
  · obtain ⟨i, l, rfl, _⟩ := h
    rfl
  · obtain ⟨i, l, rfl, q⟩ := h
    refine ⟨_, (pss_cons (ps_if (PW.pt (pw_or (pt_not (pt_val (pe_callB call_isi (by rfl) D.B.isinstance (by decide +kernel) (pa_cons (pv 0) (pa_cons (pe_bltn (v := .ty "int") (u := .type "int") (by rfl) D.B.int (by decide +kernel) rfl) pa_nil))))) (pw_or1 (pt_val (pe_callB call_isi (by rfl) D.B.isinstance (by decide +kernel) (pa_cons (pv 0) (pa_cons (pe_bltn (v := .ty "bool") (u := .type "bool") (by rfl) D.B.bool (by decide +kernel) rfl) pa_nil))))))) (pss_one (ps_ret pe_bl)) pss_nil)
      (pss_one (ps_ret (pe_and (pe_cmpR op_le (pv 1) (pv 0) (nomark _)) (pe_one (pe_or (pe_cmpR op_isN (pv 2) pe_non (nomark _)) (pe_one (pe_cmpR op_le (pv 0) (pv 2) (nomark _))))))))), ?_⟩
    refine ⟨_, rfl, _, _, .type "int", _, true, rfl, .ty "int", .base (.int i), kit_ty (by decide +kernel), true, rfl, iteF ?_⟩
    refine ⟨_, rfl, _, _, .type "int", _, false, rfl, .ty "bool", .base (.int i), kit_ty (by decide +kernel), false, rfl, iteF ?_⟩
    refine ⟨_, rfl, _, rfl, _, _, rfl, rfl, _, rfl, ?_⟩
    by_cases h1 : l ≤ i
    · rw [decide_eq_true h1] at q ⊢
      exact iteT ⟨_, rfl, rfl, true, rfl, iteT q⟩
    · rw [decide_eq_false h1] at q ⊢
      exact iteF q
theorem ok_place {k : Nat} (D : Pr P K mg) : FnOk P w K mg base (CX P w) (k + 3) D.check_place.f D.check_place.fd ["jobs", "place"] (spPlace D.BadNumber.C) := by
  have G_is_whole : FnOk P w K mg base CX0 (k + 1) D.is_whole.f D.is_whole.fd ["value", "least", "most"] spWhole := ok_whole D
  have GX_BadNumber : FnOk P w K mg base CX0 (k + 1) D.BadNumber.f D.BadNumber.fd ["self", "word"] (spWord D.BadNumber.C) := ok_word D
  refine D.check_place.F.okX sc_check_place (fun vs H Q E h => ?_) (fun cdv A outer s H vs Q E hr h => ?_)
  · obtain ⟨a, xs, i, rfl, _⟩ := h
    rfl
  · obtain ⟨a, xs, i, rfl, ha, hl, q⟩ := h
    refine ⟨_, (pss_one (ps_if (pt_not (pt_val (pe_call G_is_whole (hr.mono (by omega)) (by rfl) D.is_whole.g D.is_whole.F.kp D.is_whole.b .nil pass0 (pa_cons (pv 1) (pa_cons pe_int (pa_cons (pe_op op_sub (pe_callB call_len (by rfl) D.B.len PySem.boot_len (pa_cons (pv 0) pa_nil)) pe_int) pa_nil)))))) (pss_one (ps_raise rfl (takes_of rfl rfl rfl rfl) (pmk_oex D.BadNumber.T.O D.BadNumber.T.iC D.BadNumber.T.tI GX_BadNumber (hr.mono (by omega)) D.BadNumber.b .nil pass0 (by rfl) D.BadNumber.g (pa_cons pe_str pa_nil)))) pss_nil)), ?_⟩
    refine ⟨.int i, rfl, .ref a, rfl, .ref a, xs.length, rfl, .inr ⟨_, sqT ha, rfl⟩, xs.length, 1, rfl, rfl, .int i, 0, (xs.length : Int) - 1, rfl, .inl ⟨i, rfl⟩, _, rfl, ?_⟩
    have e : wholeV 0 ((xs.length : Int) - 1) (.int i) = (decide (0 ≤ i) && decide (i ≤ (xs.length : Int) - 1)) := rfl
    rw [e, ← Bool.decide_and]
    by_cases h1 : 0 ≤ i ∧ i < xs.length
    · rw [if_pos h1] at q
      rw [decide_eq_true (by omega)]
      exact iteF q
    · rw [if_neg h1] at q
      rw [decide_eq_false (by omega)]
      exact iteT (mkO_word (by decide +kernel) q (Same.refl _))
theorem nts_rep : ∀ n : Nat, (List.replicate n [V.int 0]).flatten = nts (List.replicate n 0)
  | 0 => rfl
  | n + 1 => by
    rw [List.replicate_succ, List.flatten_cons, nts_rep n, List.replicate_succ]
    rfl
theorem ok_init {k : Nat} (D : Pr P K mg) : FnOk P w K mg base CX0 (k + 1) D.Clock.f D.Clock.fd ["self", "jobs"] (spInit D.Clock.C) := by
  refine D.Clock.F.ok sc_Clock_init (fun vs H Q E h => ?_) (fun cdv A outer s H vs Q E hr h => ?_)
  · obtain ⟨c, a, dx, js, rfl, _⟩ := h
    rfl
  · obtain ⟨c, a, dx, js, rfl, hc, hj, hl, q⟩ := h
    obtain ⟨ts, ha, pt⟩ := id hj
    have lts : ts.length = js.length := by have := pt.length; rw [List.length_map] at this; exact this
    have nac : a ≠ c := ne_of ha hc (by intro q; cases q)
    refine ⟨_, (pss_cons (ps_fld (pv 0) (pv 1) rfl)
      (pss_cons (ps_fld (pv 0) pe_int rfl)
      (pss_cons (ps_fld (pv 0) (pe_op op_rep (pe_lst (pa_cons pe_int pa_nil)) (pe_callB call_len (by rfl) D.B.len PySem.boot_len (pa_cons (pv 1) pa_nil))) rfl)
      (pss_one (ps_fld (pv 0) pe_non rfl))))), ?_⟩
    refine ⟨_, rfl, _, rfl, c, D.Clock.C, dx, [], rfl, hc, D.Clock.cl, D.Clock.nf _ (by simp), by show 0 < 1000; decide, ?_⟩
    refine ⟨_, rfl, c, D.Clock.C, dx, _, rfl, upd_same, D.Clock.cl, D.Clock.nf _ (by simp), by show 1 < 1000; decide, ?_⟩
    have np1 : upd (upd H c (.ins D.Clock.C dx (putF "jobs" (.ref a) []))) c (.ins D.Clock.C dx (putF "tick" (.int 0) (putF "jobs" (.ref a) []))) = upd H c (.ins D.Clock.C dx (putF "tick" (.int 0) (putF "jobs" (.ref a) []))) := by
      funext b
      by_cases hb : b = c
      · subst hb; rw [upd_same, upd_same]
      · rw [upd_ne hb, upd_ne hb, upd_ne hb]
    rw [np1]
    refine ⟨by show 1 ≤ sizeLine; decide, fun p np => ?_⟩
    have npc : p ≠ c := fun z => by rw [z, upd_same] at np; cases np
    have np0 : H p = none := by rw [upd_ne npc] at np; exact np
    have nap : a ≠ p := ne_of_none ha np0
    refine ⟨.ref a, rfl, .ref a, js.length, rfl, .inr ⟨_, sqT (by rw [upd_ne nap, upd_ne nac]; exact ha), lts.symm⟩, p, (js.length : Nat), [.int 0], rfl, rfl, upd_same, by omega, by omega, by show 1 * Int.toNat ((js.length : Nat) : Int) ≤ sizeLine; rw [sizeLine_eq]; omega, fun L nL => ?_⟩
    rw [Int.toNat_natCast, nts_rep]
    have nLp : L ≠ p := fun z => by rw [z, upd_same] at nL; cases nL
    have nLc : L ≠ c := fun z => by rw [z, upd_ne npc.symm, upd_same] at nL; cases nL
    have nL0 : H L = none := by rw [upd_ne nLp, upd_ne nLc] at nL; exact nL
    have nT : NoAttr K D.Clock.C "left" := D.Clock.nf _ (by simp)
    refine ⟨_, rfl, c, D.Clock.C, dx, _, rfl, by rw [upd_ne nLc.symm, upd_ne npc.symm, upd_same], D.Clock.cl, nT, by show 2 < 1000; decide, ?_⟩
    refine ⟨_, rfl, c, D.Clock.C, dx, _, rfl, upd_same, D.Clock.cl, D.Clock.nf _ (by simp), by show 3 < 1000; decide, ?_⟩
    have keep : ∀ b o, b ≠ c → H b = some o → (upd (upd (upd (upd (upd H c (.ins D.Clock.C dx (putF "tick" (.int 0) (putF "jobs" (.ref a) [])))) p (.lst [.int 0])) L (.lst (nts (List.replicate js.length 0)))) c (.ins D.Clock.C dx (putF "left" (.ref L) (putF "tick" (.int 0) (putF "jobs" (.ref a) []))))) c (.ins D.Clock.C dx (cf a 0 L .non))) b = some o := fun b o hb e => by
      rw [upd_ne hb, upd_ne hb, upd_ne (ne_of_none e nL0), upd_ne (ne_of_none e np0), upd_ne hb]
      exact e
    refine q _ L keep nL0 ⟨⟨dx, .non, upd_same, rfl⟩, by rw [upd_ne nLc, upd_ne nLc, upd_same], ⟨ts, keep _ _ nac ha, ?_⟩, by simp⟩
    exact paired_imp (fun x y ⟨b, e, hb⟩ => ⟨b, e, keep b _ (ne_of hb hc (by intro q; cases q)) hb⟩) pt
end
end K7

set_option Elab.async false
set_option linter.all false
set_option maxRecDepth 100000
set_option maxHeartbeats 4000000
namespace K7
open PySem PySem.Spec PyProof.Rows L2 GX NdefX
/-! ### one tick -/
theorem enumT_k2 {H H' : Hp} {ts : List Addr} {xs : List V} (h : EnumT H ts xs) (k : ∀ b ys, H b = some (.tup ys) → H' b = some (.tup ys)) : EnumT H' ts xs :=
  ⟨h.1, fun j t e => let ⟨x, e1, e2⟩ := h.2 j t e; ⟨x, e1, k _ _ e2⟩⟩
theorem nts_at {l : List Nat} {i x : Nat} (h : l[i]? = some x) : (nts l)[i]? = some (.int (x : Nat)) := by unfold nts; rw [List.getElem?_map, h]; rfl
theorem nts_set (l : List Nat) (i x : Nat) : (nts l).set i (.int (x : Nat)) = nts (l.set i x) := by unfold nts; rw [List.map_set]
theorem k2_upd {c L : Addr} {H : Hp} {o : HO} : K2 c L H (upd H L o) := fun b _ _ m e => by rw [upd_ne m]; exact e
theorem k2_updC {c L : Addr} {H : Hp} {o : HO} : K2 c L H (upd H c o) := fun b _ n _ e => by rw [upd_ne n]; exact e
theorem MisV.updL {L : Addr} {H : Hp} {x : V} {m : Option (Nat × Nat)} {xs : List V} {o : HO} (hL : H L = some (.lst xs)) (h : MisV H x m) : MisV (upd H L o) x m := by
  cases m with
  | none => exact h
  | some m =>
    obtain ⟨T, e, hT⟩ := h
    exact ⟨T, e, by rw [upd_ne (ne_of hT hL (by intro q; cases q))]; exact hT⟩
theorem MisV.updC {c C dx : Addr} {H : Hp} {x : V} {m : Option (Nat × Nat)} {fs : List (Str × V)} {o : HO} (hc : H c = some (.ins C dx fs)) (h : MisV H x m) : MisV (upd H c o) x m := by
  cases m with
  | none => exact h
  | some m =>
    obtain ⟨T, e, hT⟩ := h
    exact ⟨T, e, by rw [upd_ne (ne_of hT hc (by intro q; cases q))]; exact hT⟩
theorem mNext_none {m : Option (Nat × Nat)} {x : Option Nat} {t : Nat} (h : mNext m x t = none) : m = none ∧ x = none := by
  cases m with
  | some m => cases h
  | none => cases x with
    | some x => cases h
    | none => exact ⟨rfl, rfl⟩
section
variable {P : Program} {w : World} {K : PySem.W.Frag} {mg : Str → Option Value} {base : Heap}
theorem ok_tick {k : Nat} (D : Pr P K mg) : FnOk P w K mg base CX0 (k + 1) D.Clock_run_tick.f D.Clock_run_tick.fd ["self"] (spTick D.Clock.C) := by
  refine D.Clock_run_tick.F.ok sc_Clock_run_tick (fun vs H Q E h => ?_) (fun cdv A outer s H vs Q E hr h => ?_)
  · obtain ⟨c, L, a, js, t, l, m, rfl, _⟩ := h
    rfl
  · obtain ⟨c, L, a, js, t, l, m, rfl, ⟨⟨dx, mv, hc, hm⟩, hL, hj, ln⟩, hok, hjl, q⟩ := h
    obtain ⟨ts, ha, pt⟩ := id hj
    have lts : ts.length = js.length := by have := pt.length; rw [List.length_map] at this; exact this
    have nJ : NoAttr K D.Clock.C "jobs" := D.Clock.nf _ (by simp)
    have nT : NoAttr K D.Clock.C "tick" := D.Clock.nf _ (by simp)
    have nL : NoAttr K D.Clock.C "left" := D.Clock.nf _ (by simp)
    have nM : NoAttr K D.Clock.C "missed" := D.Clock.nf _ (by simp)
    have ncL : c ≠ L := ne_of hc hL (by intro q; cases q)
    refine ⟨_, (pss_cons (ps_for PassesOwn.never rfl (pi_list (pe_listEnum rfl (pe_fld (pv 0) rfl) (by rfl) D.B.list (by rfl) (by rfl) D.B.enumerate)) (pg_tup rfl (pgs_cons (pg_name (i := 1) sc_Clock_run_tick.nd rfl (.inl rfl)) (pgs_cons (pg_tup rfl (pgs_cons (pg_name (i := 2) sc_Clock_run_tick.nd rfl (.inl rfl)) (pgs_cons (pg_name (i := 3) sc_Clock_run_tick.nd rfl (.inl rfl)) (pgs_cons (pg_name (i := 4) sc_Clock_run_tick.nd rfl (.inl rfl)) pgs_nil)))) pgs_nil))) (pss_one (ps_if (pt_cmpR op_eq (pe_op (r := rModN) op_ModN (pe_fld (pv 0) rfl) (pv 3)) (pv 4) (nomark _)) (pss_cons (ps_if (PW.pt (pw_and (pt_cmpR op_gt (pe_ix (r := rIxL K) ix_list (pe_fld (pv 0) rfl) (pv 1) (fun _ _ => rfl)) pe_int (nomark _)) (pw_and1 (pt_cmpR op_isN (pe_fld (pv 0) rfl) pe_non (nomark _))))) (pss_one (ps_fld (pv 0) (pe_tup (pa_cons (pv 1) (pa_cons (pe_fld (pv 0) rfl) pa_nil))) rfl)) pss_nil) (pss_one (ps_augS (pe_fld (pv 0) rfl) (pv 1) get_list (pv 2) ip_addN set_list))) pss_nil)))
      (pss_cons (ps_fldaug (pv 0) pe_int in_addN)
      (pss_cons (ps_for PassesOwn.never rfl (pi_range1 (by rfl) D.B.range (pa_cons (pe_callB call_len (by rfl) D.B.len PySem.boot_len (pa_cons (pe_fld (pv 0) rfl) pa_nil)) pa_nil)) (pg_name (i := 1) sc_Clock_run_tick.nd rfl (.inl rfl)) (pss_one (ps_if (pt_cmpR op_gt (pe_ix (r := rIxL K) ix_list (pe_fld (pv 0) rfl) (pv 1) (fun _ _ => rfl)) pe_int (nomark _)) (pss_cons (ps_augS (pe_fld (pv 0) rfl) (pv 1) get_list pe_int ip_subN set_list) (pss_one (ps_ret (pv 1)))) pss_nil)))
      (pss_one (ps_ret (pe_un un_neg pe_int)))))), ?_⟩
    refine ⟨_, rfl, c, D.Clock.C, dx, _, _, rfl, hc, D.Clock.cl, nJ, cf_jobs _ _ _ _, a, ts, rfl, .inr (sqT ha), fun H1 p us k1 np nus pn nd ep eT => ⟨p, rfl, ⟨_, sqL ep⟩, ?_⟩⟩
    have lus : us.length = js.length := by rw [eT.1, lts]
    have npc : p ≠ c := fun z => by rw [z, hc] at np; cases np
    have npL : p ≠ L := fun z => by rw [z, hL] at np; cases np
    refine forLs (D := { nx := _, rt := Q }) (xs := us.map V.ref) (fun i σ H' => (∃ c1 c2 c3 c4, σ = [some (.ref c), c1, c2, c3, c4]) ∧ (∃ dx mv, H' c = some (.ins D.Clock.C dx (cf a t L mv)) ∧ MisV H' mv (mNext m (missP js t l i) t)) ∧ H' L = some (.lst (nts (part js t l i))) ∧ K2 c L H1 H')
      ep ⟨⟨_, _, _, _, rfl⟩, ⟨dx, mv, k1 _ _ hc, ?_⟩, k1 _ _ hL, K2.refl⟩ (fun i σ H' h => h.2.2.2 _ _ npc npL ep) ?_ ?_
    · have : mNext m (missP js t l 0) t = m := by cases m <;> rfl
      rw [this]
      exact hm.same k1
    · rintro i x σ H2 hx ⟨⟨c1, c2, c3, c4, rfl⟩, ⟨dx, mv, hc2, hm2⟩, hL2, k2⟩
      rw [List.getElem?_map] at hx
      obtain ⟨u, hu, rfl⟩ := Option.map_eq_some_iff.mp hx
      have hi : i < js.length := by have := (List.getElem?_eq_some_iff.mp hu).1; omega
      obtain ⟨x1, hx1, hu1⟩ := eT.2 i u hu
      obtain ⟨vs, b, hv, rfl, hb⟩ := tups_got pt hx1
      rw [List.getElem?_map] at hv
      obtain ⟨j, hji, rfl⟩ := Option.map_eq_some_iff.mp hv
      have jk := hok j (List.mem_of_getElem? hji)
      have hc1 := k1 _ _ hc
      have hL1 := k1 _ _ hL
      have hu2 := tup_k2 k2 hc1 hL1 hu1
      have hb2 := tup_k2 k2 hc1 hL1 (k1 _ _ hb)
      obtain ⟨y, hy⟩ : ∃ y, l[i]? = some y := ⟨_, List.getElem?_eq_getElem (by omega)⟩
      have hyp : (part js t l i)[i]? = some y := by rw [part_get ln hi, hy]
      refine ⟨u, _, rfl, sqT hu2, rfl, _, _, rfl, _, _, rfl, b, _, rfl, sqT hb2, rfl, _, _, rfl, _, _, rfl, _, _, rfl, rfl, rfl, ?_⟩
      refine ⟨_, rfl, c, D.Clock.C, dx, _, _, rfl, hc2, D.Clock.cl, nT, cf_tick _ _ _ _, _, rfl, t, j.p, rfl, rfl, jk.p1, _, rfl, rfl, _, rfl, ?_⟩
      have hct : decide (V.int ((t % j.p : Nat) : Int) = V.int ((j.o : Nat) : Int)) = comes j t := by
        unfold comes
        rw [Bool.eq_iff_iff, decide_eq_true_iff, beq_iff_eq]
        exact ⟨fun z => by injection z with z; exact_mod_cast z, fun z => by rw [z]⟩
      have tk2 : ∀ H3, K2 c L H2 H3 → K2 c L H1 H3 := fun H3 k3 => k2.trans k3
      by_cases hcm : comes j t = true
      · refine iteTq (hct.trans hcm) ?_
        have hps : part js t l (i + 1) = (part js t l i).set i (y + j.r) := by
          rw [part_succ ln hji hy]
          unfold come1
          rw [if_pos hcm]
        refine ⟨_, rfl, c, D.Clock.C, dx, _, _, rfl, hc2, D.Clock.cl, nL, cf_left _ _ _ _, _, rfl, L, _, i, _, rfl, rfl, sqL hL2, atI_nat (nts_at hyp), (y : Nat), 0, rfl, rfl, _, rfl, ?_⟩
        have hmn := missP_succ (t := t) ln hji hy
        by_cases hy0 : 0 < y
        · refine iteTq (decide_eq_true (by omega)) ⟨_, rfl, c, D.Clock.C, dx, _, _, rfl, hc2, D.Clock.cl, nM, cf_missed _ _ _ _, rfl, _, rfl, ?_⟩
          cases hmx : mNext m (missP js t l i) t with
          | some z =>
            rw [hmx] at hm2
            obtain ⟨T, rfl, hT⟩ := hm2
            refine iteFq (decide_eq_false (by intro z; cases z)) ?_
            have e2 : mNext m (missP js t l (i + 1)) t = some z := by
              rw [hmn]
              cases hq : missP js t l i with
              | some w => rw [hq] at hmx; exact hmx
              | none =>
                rw [hq] at hmx
                cases m with
                | some m => exact hmx
                | none => cases hmx
            exact ⟨_, rfl, c, D.Clock.C, dx, _, _, rfl, hc2, D.Clock.cl, nL, cf_left _ _ _ _, _, rfl, L, _, i, _, rfl, rfl, sqL hL2, nts_at hyp, _, rfl, y, j.r, rfl, rfl, trivial, L, _, _, i, rfl, rfl, hL2, ixN_nat (by unfold nts; rw [List.length_map, part_len ln (by omega)]; exact hi), ⟨_, _, _, _, rfl⟩, ⟨dx, _, by rw [upd_ne ncL]; exact hc2, by rw [e2]; exact MisV.updL (m := some z) hL2 ⟨T, rfl, hT⟩⟩, by rw [upd_same, nts_set, ← hps], k2.trans k2_upd⟩
          | none =>
            rw [hmx] at hm2
            obtain rfl : mv = .non := hm2
            obtain ⟨rfl, hmp⟩ := mNext_none hmx
            have e2 : missP js t l (i + 1) = some i := by rw [hmn, hmp, if_pos ⟨hcm, hy0⟩]
            refine iteTq (decide_eq_true rfl) ⟨_, rfl, _, rfl, c, D.Clock.C, dx, _, _, rfl, hc2, D.Clock.cl, nT, cf_tick _ _ _ _, by show 2 ≤ sizeLine; decide, fun T nT2 => ?_⟩
            have nTc : c ≠ T := ne_of_none hc2 nT2
            have nTL : L ≠ T := ne_of_none hL2 nT2
            refine ⟨_, rfl, c, D.Clock.C, dx, _, rfl, by rw [upd_ne nTc]; exact hc2, D.Clock.cl, nM, cf_len _ _ _ _, ?_⟩
            rw [cf_put_missed]
            have hc3 : (upd (upd H2 T (.tup [.int (i : Nat), .int (t : Nat)])) c (.ins D.Clock.C dx (cf a t L (.ref T)))) c = some (.ins D.Clock.C dx (cf a t L (.ref T))) := upd_same
            have hL3 : (upd (upd H2 T (.tup [.int (i : Nat), .int (t : Nat)])) c (.ins D.Clock.C dx (cf a t L (.ref T)))) L = some (.lst (nts (part js t l i))) := by rw [upd_ne ncL.symm, upd_ne nTL]; exact hL2
            have hT3 : (upd (upd H2 T (.tup [.int (i : Nat), .int (t : Nat)])) c (.ins D.Clock.C dx (cf a t L (.ref T)))) T = some (.tup [.int (i : Nat), .int (t : Nat)]) := by rw [upd_ne nTc.symm, upd_same]
            have k3 : K2 c L H2 (upd (upd H2 T (.tup [.int (i : Nat), .int (t : Nat)])) c (.ins D.Clock.C dx (cf a t L (.ref T)))) := fun b o n1 n2 e => by rw [upd_ne n1, upd_ne (ne_of_none e nT2)]; exact e
            generalize upd (upd H2 T (.tup [.int (i : Nat), .int (t : Nat)])) c (.ins D.Clock.C dx (cf a t L (.ref T))) = H3 at hc3 hL3 hT3 k3 ⊢
            exact ⟨_, rfl, c, D.Clock.C, dx, _, _, rfl, hc3, D.Clock.cl, nL, cf_left _ _ _ _, _, rfl, L, _, i, _, rfl, rfl, sqL hL3, nts_at hyp, _, rfl, y, j.r, rfl, rfl, trivial, L, _, _, i, rfl, rfl, hL3, ixN_nat (by unfold nts; rw [List.length_map, part_len ln (by omega)]; exact hi), ⟨_, _, _, _, rfl⟩, ⟨dx, _, by rw [upd_ne ncL]; exact hc3, by rw [e2]; exact MisV.updL (m := some (i, t)) hL3 ⟨T, rfl, hT3⟩⟩, by rw [upd_same, nts_set, ← hps], (k2.trans k3).trans k2_upd⟩
        · refine iteFq (decide_eq_false (by omega)) ?_
          have e2 : missP js t l (i + 1) = missP js t l i := by
            rw [hmn]
            cases missP js t l i with
            | some z => rfl
            | none => exact if_neg fun z => hy0 z.2
          exact ⟨_, rfl, c, D.Clock.C, dx, _, _, rfl, hc2, D.Clock.cl, nL, cf_left _ _ _ _, _, rfl, L, _, i, _, rfl, rfl, sqL hL2, nts_at hyp, _, rfl, y, j.r, rfl, rfl, trivial, L, _, _, i, rfl, rfl, hL2, ixN_nat (by unfold nts; rw [List.length_map, part_len ln (by omega)]; exact hi), ⟨_, _, _, _, rfl⟩, ⟨dx, _, by rw [upd_ne ncL]; exact hc2, by rw [e2]; exact hm2.updL hL2⟩, by rw [upd_same, nts_set, ← hps], k2.trans k2_upd⟩
      · have hcf : comes j t = false := by simpa using hcm
        refine iteFq (hct.trans hcf) ⟨⟨_, _, _, _, rfl⟩, ⟨dx, mv, hc2, ?_⟩, ?_, k2⟩
        · rw [missP_succ ln hji hy]
          cases hmp : missP js t l i with
          | some z => rw [hmp] at hm2; exact hm2
          | none =>
            rw [hmp] at hm2
            show MisV H2 mv (mNext m (if comes j t = true ∧ 0 < y then some i else none) t)
            rw [if_neg (fun z => hcm z.1)]
            exact hm2
        · rw [part_same ln hji hy hcf]
          exact hL2
    · rintro σ H2 ⟨⟨c1, c2, c3, c4, rfl⟩, ⟨dx, mv, hc2, hm2⟩, hL2, k2⟩
      rw [List.length_map, lus, part_all ln] at hL2
      rw [List.length_map, lus, missP_all ln] at hm2
      refine ⟨_, rfl, c, D.Clock.C, dx, _, _, rfl, hc2, D.Clock.cl, nT, cf_tick _ _ _ _, t, 1, rfl, rfl, dx, _, hc2, cf_len _ _ _ _, ?_⟩
      rw [cf_put_tick]
      have hc3 : (upd H2 c (.ins D.Clock.C dx (cf a (t + 1) L mv))) c = some (.ins D.Clock.C dx (cf a (t + 1) L mv)) := upd_same
      have hL3 : (upd H2 c (.ins D.Clock.C dx (cf a (t + 1) L mv))) L = some (.lst (nts (arr js t l))) := by rw [upd_ne ncL.symm]; exact hL2
      have hm3 : MisV (upd H2 c (.ins D.Clock.C dx (cf a (t + 1) L mv))) mv (mNext m (miss js t l) t) := hm2.updC hc2
      have k3 : K2 c L H (upd H2 c (.ins D.Clock.C dx (cf a (t + 1) L mv))) := ((k2_of k1).trans k2).trans k2_updC
      generalize upd H2 c (.ins D.Clock.C dx (cf a (t + 1) L mv)) = H3 at hc3 hL3 hm3 k3 ⊢
      have lb : (arr js t l).length = js.length := arr_len ln
      refine ⟨_, rfl, c, D.Clock.C, dx, _, _, rfl, hc3, D.Clock.cl, nL, cf_left _ _ _ _, .ref L, js.length, rfl, .inl ⟨_, sqL hL3, by unfold nts; rw [List.length_map, lb]⟩, (js.length : Nat), rfl, by omega, by omega, ?_⟩
      refine forRg (D := { nx := _, rt := Q }) (n := js.length) (fun i σ H' => (∃ c1 c2 c3 c4, σ = [some (.ref c), c1, c2, c3, c4]) ∧ H' = H3 ∧ ∀ k, k < i → (arr js t l)[k]? = some 0) ⟨⟨_, _, _, _, rfl⟩, rfl, fun k hk => by omega⟩ ?_ ?_
      · rintro i σ H4 hi ⟨⟨c1, c2, c3, c4, rfl⟩, rfl, h0⟩
        obtain ⟨y, hy⟩ : ∃ y, (arr js t l)[i]? = some y := ⟨_, List.getElem?_eq_getElem (by omega)⟩
        refine ⟨_, rfl, c, D.Clock.C, dx, _, _, rfl, hc3, D.Clock.cl, nL, cf_left _ _ _ _, _, rfl, L, _, i, _, rfl, rfl, sqL hL3, atI_nat (nts_at hy), (y : Nat), 0, rfl, rfl, _, rfl, ?_⟩
        cases y with
        | zero => exact iteFq (by rfl) ⟨⟨_, _, _, _, rfl⟩, rfl, fun k hk => by
            by_cases hki : k = i
            · rw [hki]; exact hy
            · exact h0 k (by omega)⟩
        | succ y =>
          obtain ⟨e1, e2⟩ := run_hit _ i y h0 hy
          refine iteTq (decide_eq_true (by omega)) ⟨_, rfl, c, D.Clock.C, dx, _, _, rfl, hc3, D.Clock.cl, nL, cf_left _ _ _ _, _, rfl, L, _, i, _, rfl, rfl, sqL hL3, nts_at hy, y + 1, 1, rfl, rfl, by omega, L, _, _, i, rfl, rfl, hL3, ixN_nat (by unfold nts; rw [List.length_map, lb]; exact hi), _, rfl, ?_⟩
          rw [e2] at q
          refine q _ (k3.trans k2_upd) ⟨⟨dx, mv, by rw [upd_ne ncL]; exact hc3, hm3.updL hL3⟩, ?_, ?_, nextL_len ln⟩
          · rw [upd_same, nts_set]
            show some (HO.lst (nts ((arr js t l).set i y))) = _
            unfold nextL
            rw [e1]
          · exact (hj.k2 k3 hc hL).k2 k2_upd hc3 hL3
      · rintro σ H4 ⟨⟨c1, c2, c3, c4, rfl⟩, rfl, h0⟩
        obtain ⟨e1, e2⟩ := run_none (arr js t l) (by rw [lb]; exact h0)
        rw [e2] at q
        exact ⟨1, rfl, q H4 k3 ⟨⟨dx, mv, hc3, hm3⟩, by rw [hL3]; unfold nextL; rw [e1], hj.k2 k3 hc hL, nextL_len ln⟩⟩
end
end K7

set_option Elab.async false
set_option linter.all false
set_option maxRecDepth 100000
set_option maxHeartbeats 4000000
namespace K7
open PySem PySem.Spec L2
/-! ### no miss, the first miss -/
def NoM (js : List Job) (T : Nat) : Prop := ∀ t, t < T → miss js t (lefts js t) = none
theorem NoM.succ {js : List Job} {T : Nat} (h : NoM js T) (m : miss js T (lefts js T) = none) : NoM js (T + 1) := fun t ht => by
  by_cases e : t = T
  · rw [e]; exact m
  · exact h t (by omega)
theorem NoM.mono {js : List Job} {S T : Nat} (h : NoM js T) (l : S ≤ T) : NoM js S := fun t ht => h t (by omega)
theorem fm_none {js : List Job} : ∀ {T : Nat}, fm js T = none ↔ NoM js T
  | 0 => ⟨fun _ t ht => by omega, fun _ => rfl⟩
  | T + 1 => by
    show (match fm js T with | some m => some m | none => (miss js T (lefts js T)).map fun i => (i, T)) = none ↔ _
    cases e : fm js T with
    | some m =>
      refine ⟨fun h => (by cases h), fun h => ?_⟩
      have := (fm_none (js := js) (T := T)).mpr (h.mono (Nat.le_succ T))
      rw [e] at this; cases this
    | none =>
      have n := (fm_none (js := js) (T := T)).mp e
      refine ⟨fun h => n.succ (Option.map_eq_none_iff.mp h), fun h => ?_⟩
      show Option.map _ (miss js T (lefts js T)) = none
      rw [h T (by omega)]; rfl
theorem fm_some {js : List Job} {i t : Nat} : ∀ {T : Nat}, fm js T = some (i, t) → t < T ∧ miss js t (lefts js t) = some i ∧ NoM js t
  | 0 => fun h => by cases h
  | T + 1 => fun h => by
    have h : (match fm js T with | some m => some m | none => (miss js T (lefts js T)).map fun i => (i, T)) = some (i, t) := h
    cases e : fm js T with
    | some m =>
      rw [e] at h
      obtain ⟨h1, h2⟩ := fm_some (T := T) (e.trans h)
      exact ⟨by omega, h2⟩
    | none =>
      rw [e] at h
      obtain ⟨x, hx, e2⟩ := Option.map_eq_some_iff.mp h
      cases e2
      exact ⟨Nat.lt_succ_self _, hx, fm_none.mp e⟩
theorem fm_at {js : List Job} {i t : Nat} (h : miss js t (lefts js t) = some i) (n : NoM js t) : fm js (t + 1) = some (i, t) := by
  show (match fm js t with | some m => some m | none => (miss js t (lefts js t)).map fun i => (i, t)) = some (i, t)
  rw [fm_none.mpr n, h]; rfl
/-- r is the first miss of all -/
def IsFM (js : List Job) : Option (Nat × Nat) → Prop
  | none => ∀ t, miss js t (lefts js t) = none
  | some (i, t) => miss js t (lefts js t) = some i ∧ NoM js t
theorem IsFM.uniq {js : List Job} {r s : Option (Nat × Nat)} (h : IsFM js r) (k : IsFM js s) : r = s := by
  match r, s, h, k with
  | none, none, _, _ => rfl
  | none, some (i, t), h, k => have := h t; rw [k.1] at this; cases this
  | some (i, t), none, h, k => have := k t; rw [h.1] at this; cases this
  | some (i, t), some (i', t'), h, k =>
    obtain ⟨h1, h2⟩ := h
    obtain ⟨k1, k2⟩ := k
    have e : t = t' := by
      rcases Nat.lt_trichotomy t t' with z | z | z
      · rw [k2 t z] at h1; cases h1
      · exact z
      · rw [h2 t' z] at k1; cases k1
    subst e
    rw [h1] at k1
    cases k1
    rfl
/-! ### periods -/
def Per (js : List Job) (c : Nat) : Prop := 1 ≤ c ∧ ∀ j ∈ js, j.p ∣ c
theorem comes_per {j : Job} {c : Nat} (h : j.p ∣ c) (t : Nat) : comes j (t + c) = comes j t := by
  unfold comes
  obtain ⟨k, rfl⟩ := h
  rw [Nat.add_mul_mod_self_left]
theorem arr_per {c : Nat} : ∀ {js : List Job} {l : List Nat}, (∀ j ∈ js, j.p ∣ c) → ∀ t, arr js (t + c) l = arr js t l
  | [], l, _, t => by unfold arr; rw [List.zipWith_nil_left, List.zipWith_nil_left]
  | j :: js, [], _, t => rfl
  | j :: js, x :: l, h, t => by
    show come1 (t + c) j x :: arr js (t + c) l = come1 t j x :: arr js t l
    rw [arr_per (fun k hk => h k (List.mem_cons_of_mem _ hk)) t]
    unfold come1
    rw [comes_per (h j List.mem_cons_self)]
theorem missF_per {c : Nat} : ∀ {js : List Job} {l : List Nat} {s : Nat}, (∀ j ∈ js, j.p ∣ c) → ∀ t, missF (t + c) s js l = missF t s js l
  | [], l, s, _, t => by cases l <;> rfl
  | j :: js, [], s, _, t => rfl
  | j :: js, x :: l, s, h, t => by
    show (if comes j (t + c) = true ∧ 0 < x then some s else missF (t + c) (s + 1) js l) = if comes j t = true ∧ 0 < x then some s else missF t (s + 1) js l
    rw [missF_per (fun k hk => h k (List.mem_cons_of_mem _ hk)) t, comes_per (h j List.mem_cons_self)]
theorem per_mul {js : List Job} {c : Nat} (h : Per js c) (k : Nat) : ∀ j ∈ js, j.p ∣ c * k := fun j hj => Nat.dvd_trans (h.2 j hj) (Nat.dvd_mul_right _ _)
/-- the same left at two multiples: the same from there on -/
theorem lefts_rep {js : List Job} {c : Nat} (h : Per js c) {i k : Nat} (e : lefts js (c * i) = lefts js (c * k)) : ∀ s, lefts js (c * i + s) = lefts js (c * k + s)
  | 0 => e
  | s + 1 => by
    show nextL js (c * i + s) (lefts js (c * i + s)) = nextL js (c * k + s) (lefts js (c * k + s))
    rw [lefts_rep h e s]
    unfold nextL
    rw [Nat.add_comm (c * i) s, Nat.add_comm (c * k) s, arr_per (per_mul h i), arr_per (per_mul h k)]
theorem miss_rep {js : List Job} {c : Nat} (h : Per js c) {i k : Nat} (e : lefts js (c * i) = lefts js (c * k)) (s : Nat) : miss js (c * i + s) (lefts js (c * i + s)) = miss js (c * k + s) (lefts js (c * k + s)) := by
  rw [lefts_rep h e s]
  unfold miss
  rw [Nat.add_comm (c * i) s, Nat.add_comm (c * k) s, missF_per (per_mul h i), missF_per (per_mul h k)]
theorem never_of_rep {js : List Job} {c : Nat} (h : Per js c) {i k : Nat} (hik : i < k) (e : lefts js (c * i) = lefts js (c * k)) (n : NoM js (c * k)) : IsFM js none := by
  have key : ∀ T, NoM js T := by
    intro T
    induction T with
    | zero => exact fun t ht => by omega
    | succ T ih =>
      refine ih.succ ?_
      by_cases hT : T < c * k
      · exact n T hT
      · obtain ⟨s, rfl⟩ : ∃ s, T = c * k + s := ⟨T - c * k, by omega⟩
        rw [← miss_rep h e s]
        have : c * i < c * k := Nat.mul_lt_mul_of_pos_left hik h.1
        exact ih _ (by omega)
  exact fun t => key (t + 1) t (Nat.lt_succ_self t)
/-! ### what is left grows from multiple to multiple -/
def Le (a b : List Nat) : Prop := Paired (fun x y => x ≤ y) a b
theorem Le.refl : ∀ a : List Nat, Le a a
  | [] => .nil
  | _ :: a => .cons (Nat.le_refl _) (Le.refl a)
theorem Le.trans : ∀ {a b c : List Nat}, Le a b → Le b c → Le a c
  | _, _, _, .nil, .nil => .nil
  | _, _, _, .cons h t, .cons k u => .cons (Nat.le_trans h k) (Le.trans t u)
theorem runL_le : ∀ a : List Nat, Le (runL a) a
  | [] => .nil
  | 0 :: a => .cons (Nat.le_refl _) (runL_le a)
  | (x + 1) :: a => .cons (Nat.le_succ x) (Le.refl a)
theorem runL_mono : ∀ {a b : List Nat}, Le a b → Le (runL a) (runL b)
  | _, _, .nil => .nil
  | 0 :: a, 0 :: b, .cons h t => .cons (Nat.le_refl _) (runL_mono t)
  | 0 :: a, (y + 1) :: b, .cons h t => .cons (Nat.zero_le _) ((runL_le a).trans t)
  | (x + 1) :: a, 0 :: b, .cons h t => absurd h (by omega)
  | (x + 1) :: a, (y + 1) :: b, .cons h t => .cons (by omega) t
theorem arr_mono {t : Nat} : ∀ {js : List Job} {a b : List Nat}, Le a b → Le (arr js t a) (arr js t b)
  | [], a, b, _ => by unfold arr; rw [List.zipWith_nil_left, List.zipWith_nil_left]; exact .nil
  | j :: js, _, _, .nil => .nil
  | j :: js, _, _, .cons (a := x) (b := y) h r => by
    refine .cons ?_ (arr_mono (js := js) r)
    unfold come1
    by_cases z : comes j t = true
    · rw [if_pos z, if_pos z]; omega
    · rw [if_neg z, if_neg z]; exact h
def stepN (js : List Job) (t : Nat) : Nat → List Nat → List Nat
  | 0, l => l
  | n + 1, l => nextL js (t + n) (stepN js t n l)
theorem stepN_lefts (js : List Job) (t : Nat) : ∀ n, lefts js (t + n) = stepN js t n (lefts js t)
  | 0 => rfl
  | n + 1 => by
    show nextL js (t + n) (lefts js (t + n)) = nextL js (t + n) (stepN js t n (lefts js t))
    rw [stepN_lefts js t n]
theorem stepN_mono {js : List Job} {t : Nat} {a b : List Nat} (h : Le a b) : ∀ n, Le (stepN js t n a) (stepN js t n b)
  | 0 => h
  | n + 1 => runL_mono (arr_mono (stepN_mono h n))
theorem stepN_per {js : List Job} {c : Nat} (h : Per js c) (k : Nat) (l : List Nat) : ∀ n, stepN js (c * k) n l = stepN js 0 n l
  | 0 => rfl
  | n + 1 => by
    show nextL js (c * k + n) (stepN js (c * k) n l) = nextL js (0 + n) (stepN js 0 n l)
    rw [stepN_per h k l n]
    unfold nextL
    rw [Nat.add_comm (c * k) n, arr_per (per_mul h k), Nat.zero_add]
theorem zeros_le : ∀ {n : Nat} {l : List Nat}, l.length = n → Le (List.replicate n 0) l
  | 0, [], _ => .nil
  | 0, _ :: _, h => by cases h
  | n + 1, [], h => by cases h
  | n + 1, x :: l, h => .cons (Nat.zero_le _) (zeros_le (by simpa using h))
theorem grows {js : List Job} {c : Nat} (h : Per js c) : ∀ k, Le (lefts js (c * k)) (lefts js (c * (k + 1)))
  | 0 => zeros_le (lefts_len js _)
  | k + 1 => by
    have e : ∀ k, lefts js (c * (k + 1)) = stepN js 0 c (lefts js (c * k)) := fun k => by
      rw [← stepN_per h k, ← stepN_lefts js (c * k) c, Nat.mul_succ]
    rw [e (k + 1), e k]
    exact stepN_mono (by rw [← e k]; exact grows h k) c
theorem le_sum : ∀ {a b : List Nat}, Le a b → a.sum ≤ b.sum ∧ (a ≠ b → a.sum < b.sum)
  | _, _, .nil => ⟨Nat.le_refl _, fun h => absurd rfl h⟩
  | _, _, .cons (l₁ := a) (l₂ := b) (a := x) (b := y) h t => by
    obtain ⟨h1, h2⟩ := le_sum t
    rw [List.sum_cons, List.sum_cons]
    refine ⟨by omega, fun ne => ?_⟩
    by_cases e : x = y
    · have := h2 fun z => ne (by rw [e, z])
      omega
    · omega
theorem sum_grows {js : List Job} {c : Nat} (h : Per js c) : ∀ n, (∀ k, k < n → lefts js (c * k) ≠ lefts js (c * (k + 1))) → n ≤ (lefts js (c * n)).sum
  | 0, _ => Nat.zero_le _
  | n + 1, ne => by
    have := sum_grows h n fun k hk => ne k (by omega)
    have := (le_sum (grows h n)).2 (ne n (by omega))
    omega
/-! ### without a miss no more is left than a job's rungs -/
theorem missF_none {t : Nat} : ∀ {js : List Job} {l : List Nat} {s : Nat}, l.length = js.length → missF t s js l = none → Paired (fun j x => comes j t = true → x = 0) js l
  | [], [], s, _, _ => .nil
  | [], _ :: _, s, h, _ => by cases h
  | _ :: _, [], s, h, _ => by cases h
  | j :: js, x :: l, s, hl, h => by
    have h : (if comes j t = true ∧ 0 < x then some s else missF t (s + 1) js l) = none := h
    by_cases c : comes j t = true ∧ 0 < x
    · rw [if_pos c] at h; cases h
    · rw [if_neg c] at h
      exact .cons (fun z => by by_cases e : 0 < x; exact absurd ⟨z, e⟩ c; omega) (missF_none (by simpa using hl) h)
def Fits (js : List Job) (l : List Nat) : Prop := Paired (fun (j : Job) x => x ≤ j.r) js l
theorem fits_arr {t : Nat} : ∀ {js : List Job} {l : List Nat}, Fits js l → Paired (fun j x => comes j t = true → x = 0) js l → Fits js (arr js t l)
  | _, _, .nil, .nil => .nil
  | _, _, .cons (a := j) (b := x) h t1, .cons k u => by
    refine .cons ?_ (fits_arr t1 u)
    unfold come1
    by_cases c : comes j t = true
    · rw [if_pos c, k c]; omega
    · rw [if_neg c]; exact h
theorem fits_le : ∀ {js : List Job} {a b : List Nat}, Le a b → Fits js b → Fits js a
  | _, _, _, .nil, .nil => .nil
  | _, _, _, .cons h t, .cons k u => .cons (Nat.le_trans h k) (fits_le t u)
theorem fits_zero : ∀ js : List Job, Fits js (List.replicate js.length 0)
  | [] => .nil
  | _ :: js => .cons (Nat.zero_le _) (fits_zero js)
theorem fits_at {js : List Job} : ∀ {T : Nat}, NoM js T → Fits js (lefts js T)
  | 0, _ => fits_zero js
  | T + 1, n => fits_le (runL_le _) (fits_arr (fits_at (n.mono (Nat.le_succ T))) (missF_none (lefts_len js T) (n T (Nat.lt_succ_self T))))
theorem fits_sum : ∀ {js : List Job} {l : List Nat}, Fits js l → l.sum ≤ (js.map (·.r)).sum
  | _, _, .nil => Nat.le_refl _
  | _, _, .cons h t => by
    rw [List.map_cons, List.sum_cons, List.sum_cons]
    have := fits_sum t
    omega
/-- so there are not many multiples with unlike rests -/
theorem few {js : List Job} {c : Nat} (h : Per js c) {n : Nat} (ne : ∀ k, k + 1 < n → lefts js (c * k) ≠ lefts js (c * (k + 1))) (nm : NoM js (c * (n - 1))) : n ≤ (js.map (·.r)).sum + 1 := by
  have := sum_grows h (n - 1) fun k hk => ne k (by omega)
  have := fits_sum (fits_at nm)
  omega
end K7

set_option Elab.async false
set_option linter.all false
set_option maxRecDepth 100000
set_option maxHeartbeats 4000000
namespace K7
open PySem PySem.Spec PyProof.Rows L2 GX NdefX
/-! ### settled -/
theorem jt_len {H : Hp} {ts : List V} {js : List Job} (p : TupsT H ts (js.map jv)) : ts.length = js.length := by
  have := p.length
  rw [List.length_map] at this
  exact this
theorem jobs_got {H : Hp} {ts : List V} {js : List Job} (p : TupsT H ts (js.map jv)) {i : Nat} {x : V} (h : ts[i]? = some x) : ∃ j a, js[i]? = some j ∧ x = .ref a ∧ H a = some (.tup (jv j)) := by
  obtain ⟨vs, a, hv, e, ha⟩ := tups_got p h
  rw [List.getElem?_map] at hv
  obtain ⟨j, hj, rfl⟩ := Option.map_eq_some_iff.mp hv
  exact ⟨j, a, hj, e, ha⟩
/-- a new clock, and all that stood stands -/
theorem same_k2 {c L : Addr} {H H1 H2 : Hp} (s : Same H H1) (k : K2 c L H1 H2) (nc : H c = none) (nL : H L = none) : Same H H2 := fun b o e => k b o (ne_of_none e nc) (ne_of_none e nL) (s b o e)
/-- the making of a clock: what __init__ is asked -/
theorem mk_clock {C a x dx : Addr} {H : Hp} {js : List Job} {Q : Hp → Prop} (hj : JobsT H a js) (hl : js.length ≤ 1000) (nx : H x = none) (nd : H dx = none) (ne : dx ≠ x)
    (q : ∀ H' L, Same H H' → L ≠ x → H L = none → Ck C H' x L a js 0 (lefts js 0) none → Q H') (E : XK) :
    spInit C (.ref x :: ([V.ref a] ++ [])) (upd (upd H dx (.own x)) x (.ins C dx [])) (fun v H2 => v = .non ∧ Q H2) E := by
  have s1 : Same H (upd (upd H dx (.own x)) x (.ins C dx [])) := fun b o e => by rw [upd_ne (ne_of_none e nx), upd_ne (ne_of_none e nd)]; exact e
  refine ⟨x, a, dx, js, rfl, upd_same, hj.same s1, hl, fun H' L k nL ck => ⟨rfl, q H' L (fun b o e => k b o (ne_of_none e nx) (s1 b o e)) ?_ ?_ ck⟩⟩
  · intro z; rw [z, upd_same] at nL; cases nL
  · exact s1.free nL
def keyL (l : List Nat) : List L2.Key := l.map fun n => Sum.inl ((n : Nat) : Int)
theorem keyL_v (l : List Nat) : (keyL l).map kV = nts l := by unfold keyL nts; rw [List.map_map]; rfl
theorem keyL_inj : ∀ {l m : List Nat}, keyL l = keyL m → l = m
  | [], [], _ => rfl
  | [], _ :: _, h => by cases h
  | _ :: _, [], h => by cases h
  | x :: l, y :: m, h => by
    have h : (Sum.inl ((x : Nat) : Int) : L2.Key) :: keyL l = Sum.inl ((y : Nat) : Int) :: keyL m := h
    injection h with h1 h2
    injection h1 with h1
    rw [keyL_inj h2, Int.ofNat.inj h1]
/-- the rests met at the first n multiples -/
def mets (js : List Job) (c n : Nat) : List (List L2.Key × V) := (List.range n).map fun k => (keyL (lefts js (c * k)), V.int ((c * k : Nat) : Int))
theorem mets_none {js : List Job} {c : Nat} {l : List Nat} : ∀ {n : Nat}, valV (mets js c n) (keyL l) = none ↔ ∀ k, k < n → lefts js (c * k) ≠ l
  | 0 => ⟨fun _ k hk => by omega, fun _ => rfl⟩
  | n + 1 => by
    have e : mets js c (n + 1) = mets js c n ++ [(keyL (lefts js (c * n)), V.int ((c * n : Nat) : Int))] := by
      unfold mets; rw [List.range_succ, List.map_append]; rfl
    constructor
    · intro h k hk z
      have : (mets js c (n + 1)).any (fun kv => decide (kv.1 = keyL l)) = true := by
        rw [List.any_eq_true]
        refine ⟨(keyL (lefts js (c * k)), V.int ((c * k : Nat) : Int)), List.mem_map.mpr ⟨k, List.mem_range.mpr hk, rfl⟩, ?_⟩
        exact decide_eq_true (by rw [z])
      rw [valV_any, h] at this
      cases this
    · intro h
      cases q : valV (mets js c (n + 1)) (keyL l) with
      | none => rfl
      | some v =>
        have : (mets js c (n + 1)).any (fun kv => decide (kv.1 = keyL l)) = true := by rw [valV_any, q]; rfl
        obtain ⟨p, hp, hd⟩ := List.any_eq_true.mp this
        obtain ⟨k, hk, rfl⟩ := List.mem_map.mp hp
        exact absurd (keyL_inj (of_decide_eq_true hd)) (h k (List.mem_range.mp hk))
theorem mets_put {js : List Job} {c n : Nat} (h : ∀ k, k < n → lefts js (c * k) ≠ lefts js (c * n)) : putK (mets js c n) (keyL (lefts js (c * n))) (.int ((c * n : Nat) : Int)) = mets js c (n + 1) := by
  rw [putK_new _ (mets_none.mpr h)]
  unfold mets
  rw [List.range_succ, List.map_append]
  rfl
theorem mets_len (js : List Job) (c n : Nat) : (mets js c n).length = n := by unfold mets; rw [List.length_map, List.length_range]
/-- where tick T stands between the multiples -/
theorem at_mult {c n T : Nat} (hc : 1 ≤ c) (h1 : T ≤ c * n) (h2 : c * n < T + c) : (T % c = 0 → T = c * n) ∧ (T % c ≠ 0 → T + 1 ≤ c * n ∧ c * n < T + 1 + c) := by
  constructor
  · intro h
    obtain ⟨q, rfl⟩ := Nat.dvd_of_mod_eq_zero h
    have : c * n < c * (q + 1) := by rw [Nat.mul_succ]; exact h2
    have a1 := Nat.le_of_mul_le_mul_left h1 hc
    have a2 := Nat.lt_of_mul_lt_mul_left this
    rw [show n = q by omega]
  · intro h
    refine ⟨?_, by omega⟩
    rcases Nat.lt_or_ge T (c * n) with z | z
    · omega
    · exfalso; apply h; rw [Nat.le_antisymm h1 z]; exact Nat.mul_mod_right _ _
def spSettled : Sp := fun vs H Q _ => ∃ a js, vs = [.ref a] ∧ JobsT H a js ∧ (∀ j ∈ js, JOk j) ∧ js.length ≤ 5 ∧ ∀ H' T mv x y r, Same H H' → H' T = some (.tup [mv, x, y]) → MisV H' mv r → IsFM js r → Q (.ref T) H'
theorem mis_non {H : Hp} {mv : V} {r : Option (Nat × Nat)} (h : MisV H mv r) : decide (mv = .non) = r.isNone := by
  cases r with
  | none => obtain rfl : mv = .non := h; rfl
  | some r => obtain ⟨T, rfl, _⟩ := h; exact decide_eq_false (by intro z; cases z)
theorem fm_succ (js : List Job) (T : Nat) : mNext (fm js T) (miss js T (lefts js T)) T = fm js (T + 1) := by
  show _ = (match fm js T with | some m => some m | none => (miss js T (lefts js T)).map fun i => (i, T))
  cases fm js T <;> rfl
theorem rsum {js : List Job} (h : ∀ j ∈ js, JOk j) : (js.map (·.r)).sum ≤ 12 * js.length := by
  induction js with
  | nil => exact Nat.le_refl _
  | cons j js ih =>
    have := ih fun k hk => h k (List.mem_cons_of_mem _ hk)
    have := (h j List.mem_cons_self).r2
    rw [List.map_cons, List.sum_cons, List.length_cons]
    omega
/-- a change of what is no part of the clock -/
theorem Ck.but {C c L a M : Addr} {H H' : Hp} {js : List Job} {t : Nat} {l : List Nat} {m : Option (Nat × Nat)} (h : Ck C H c L a js t l m) (k : ∀ b o, b ≠ M → H b = some o → H' b = some o) (nc : c ≠ M) (nL : L ≠ M) (nt : ∀ xs, H M ≠ some (.tup xs)) : Ck C H' c L a js t l m := by
  obtain ⟨⟨dx, mv, e, hm⟩, hl, ⟨ts, ha, pt⟩, ln⟩ := h
  have kt : ∀ b xs, H b = some (.tup xs) → H' b = some (.tup xs) := fun b xs e => k b _ (fun z => nt xs (z ▸ e)) e
  refine ⟨⟨dx, mv, k _ _ nc e, ?_⟩, k _ _ nL hl, ⟨ts, kt _ _ ha, paired_imp (fun x c ⟨b, e, hb⟩ => ⟨b, e, kt _ _ hb⟩) pt⟩, ln⟩
  cases m with
  | none => exact hm
  | some m =>
    obtain ⟨T, e, hT⟩ := hm
    exact ⟨T, e, kt _ _ hT⟩
section
variable {P : Program} {w : World} {K : PySem.W.Frag} {mg : Str → Option Value} {base : Heap}
theorem ok_settled {k : Nat} (D : Pr P K mg) : FnOk P w K mg base CX0 (k + 3) D.settled.f D.settled.fd ["jobs"] spSettled := by
  have G_Clock_init : FnOk P w K mg base CX0 (k + 1) D.Clock.f D.Clock.fd ["self", "jobs"] (spInit D.Clock.C) := ok_init D
  have G_Clock_run_tick : FnOk P w K mg base CX0 (k + 1) D.Clock_run_tick.f D.Clock_run_tick.fd ["self"] (spTick D.Clock.C) := ok_tick D
  refine D.settled.F.ok sc_settled (fun vs H Q E h => ?_) (fun cdv A outer s H vs Q E hr h => ?_)
  · obtain ⟨a, js, rfl, _⟩ := h
    rfl
  · obtain ⟨a, js, rfl, hj, hok, hjl, q⟩ := h
    obtain ⟨ts, ha, pt⟩ := id hj
    have lts := jt_len pt
    refine ⟨_, (pss_cons (ps_set (i := 1) sc_settled.nd rfl (.inl rfl) pe_int)
      (pss_cons (ps_for PassesOwn.never rfl (pi_tup (pv 0)) (pg_tup rfl (pgs_cons (pg_name (i := 2) sc_settled.nd rfl (.inl rfl)) (pgs_cons (pg_name (i := 3) sc_settled.nd rfl (.inl rfl)) (pgs_cons (pg_name (i := 2) sc_settled.nd rfl (.inl rfl)) pgs_nil)))) (pss_one (ps_set (i := 1) sc_settled.nd rfl (.inl rfl) (pe_callBfun cr_lcm (by rfl) D.g_lcm (pa_cons (pv 1) (pa_cons (pv 3) pa_nil))))))
      (pss_cons (ps_set (i := 4) sc_settled.nd rfl (.inl rfl) (pe_make D.Clock.M G_Clock_init (hr.mono (by omega)) (by rfl) D.Clock.g D.Clock.b .nil pass0 (pa_cons (pv 0) pa_nil)))
      (pss_cons (ps_set (i := 5) sc_settled.nd rfl (.inl rfl) pe_dnewT)
      (pss_cons (ps_while PassesOwn.never (pt_cmpR op_isN (pe_fld (pv 4) rfl) pe_non (nomark _)) (pss_cons (ps_if (pt_cmpR op_eq (pe_op (r := rModN) op_ModN (pe_fld (pv 4) rfl) (pv 1)) pe_int (nomark _)) (pss_cons (ps_set (i := 6) sc_settled.nd rfl (.inl rfl) (pe_callTy call_tuple_of (by rfl) D.B.tuple (by decide +kernel) (pa_cons (pe_fld (pv 4) rfl) pa_nil))) (pss_cons (ps_if (pt_cmp (pc_din (L2.hu_of hr) (pv 6) (pv 5))) (pss_one (ps_ret (pe_tup (pa_cons pe_non (pa_cons (pe_dget (L2.hu_of hr) (pv 5) (pv 6) (fun _ _ => rfl)) (pa_cons (pe_fld (pv 4) rfl) pa_nil)))))) pss_nil) (pss_one (ps_dput (L2.hu_of hr) (pv 5) (pv 6) (pe_fld (pv 4) rfl) rfl)))) pss_nil) (pss_one (ps_expr (pe_meth0 (pv 4) D.Clock.cl D.Clock_run_tick.M G_Clock_run_tick (hr.mono (by omega)) D.Clock_run_tick.b .nil pass0)))))
      (pss_one (ps_ret (pe_tup (pa_cons (pe_fld (pv 4) rfl) (pa_cons pe_non (pa_cons pe_non pa_nil))))))))))), ?_⟩
    refine ⟨.ref a, rfl, a, rfl, ⟨_, sqT ha⟩, forTt (D := { nx := _, rt := Q }) (fun i σ H' => (∃ c, (∃ c2 c3 c4 c5 c6, σ = [some (.ref a), some (.int (c : Nat)), c2, c3, c4, c5, c6]) ∧ 1 ≤ c ∧ c ≤ 24 ^ i ∧ ∀ j ∈ js.take i, j.p ∣ c) ∧ H' = H) ha
      ⟨⟨1, ⟨_, _, _, _, _, rfl⟩, by omega, by omega, fun j hj => by simp at hj⟩, rfl⟩ (fun i σ H' o p e => by rw [p.2]; exact e) ?_ ?_⟩
    · rintro i y σ H2 hy ⟨⟨c, ⟨c2, c3, c4, c5, c6, rfl⟩, h1, h2, h3⟩, rfl⟩
      obtain ⟨j, b, hj', rfl, hb⟩ := jobs_got pt hy
      have ok' := hok j (List.mem_of_getElem? hj')
      have hi : i < js.length := (List.getElem?_eq_some_iff.mp hj').1
      have hp : 24 ^ i ≤ 24 ^ 4 := Nat.pow_le_pow_right (by decide) (by omega)
      have p4e : 24 ^ 4 = 331776 := by decide
      have := ok'.p1; have := ok'.p2
      refine ⟨b, _, rfl, sqT hb, rfl, _, _, rfl, _, _, rfl, _, _, rfl, rfl, _, rfl, _, rfl, c, j.p, rfl, by omega, by omega, ⟨Nat.lcm c j.p, ⟨_, _, _, _, _, rfl⟩, Nat.lcm_pos (by omega) (by omega), ?_, ?_⟩, rfl⟩
      · refine Nat.le_trans (PySem.W.mc_lcm_le _ _) ?_
        rw [Nat.pow_succ]
        exact Nat.mul_le_mul h2 (by omega)
      · intro j2 hj2
        rw [take_get hj'] at hj2
        rcases List.mem_append.mp hj2 with z | z
        · exact Nat.dvd_trans (h3 j2 z) (Nat.dvd_lcm_left _ _)
        · rw [List.mem_singleton.mp z]; exact Nat.dvd_lcm_right _ _
    · rintro σ H2 ⟨⟨c, ⟨c2, c3, c4, c5, c6, rfl⟩, h1, h2, h3⟩, rfl⟩
      rw [lts, List.take_length] at h3
      have per : Per js c := ⟨h1, h3⟩
      refine ⟨_, rfl, fun x dx nx ndx nex => mk_clock hj (by omega) nx ndx nex (fun H3 L s3 nLx nL0 ck => ?_) _⟩
      refine fun M nM => ?_
      have nMx : M ≠ x := fun z => by obtain ⟨⟨_, _, e, _⟩, _⟩ := ck; rw [z, e] at nM; cases nM
      have nML : M ≠ L := fun z => by rw [z, ck.lst] at nM; cases nM
      have sM := same_upd nM (o := .dT [])
      have ckM := ck.same sM
      have sHM := s3.trans sM
      have nMH := s3.free nM
      have eM : upd H3 M (.dT []) M = some (.dT []) := upd_same
      generalize upd H3 M (.dT []) = H4 at ckM eM sM sHM
      refine ⟨fun m σ H' => ∃ T n c2 c3 c6, m = c * ((js.map (·.r)).sum + 2) - T ∧ T ≤ c * ((js.map (·.r)).sum + 2) ∧ σ = [some (.ref a), some (.int (c : Nat)), c2, c3, some (.ref x), some (.ref M), c6] ∧ Same H2 H' ∧ Ck D.Clock.C H' x L a js T (lefts js T) (fm js T) ∧ H' M = some (.dT (mets js c n)) ∧ T ≤ c * n ∧ c * n < T + c ∧ (∀ k m, k < m → m < n → lefts js (c * k) ≠ lefts js (c * m)), ⟨_, 0, 0, _, _, _, rfl, by omega, rfl, sHM, ckM, eM, by omega, by omega, fun k m _ h => by omega⟩, ?_⟩
      rintro m σ H5 ⟨T, n, c2, c3, c6, rfl, hB, rfl, s5, ck5, eM5, t1, t2, ne⟩
      obtain ⟨⟨dx, mv, hx5, hm5⟩, hL5, hj5, ln5⟩ := id ck5
      have nM : NoAttr K D.Clock.C "missed" := D.Clock.nf _ (by simp)
      have nT : NoAttr K D.Clock.C "tick" := D.Clock.nf _ (by simp)
      have nL : NoAttr K D.Clock.C "left" := D.Clock.nf _ (by simp)
      refine ⟨_, rfl, x, D.Clock.C, dx, _, _, rfl, hx5, D.Clock.cl, nM, cf_missed _ _ _ _, rfl, _, rfl, ?_⟩
      cases hf : fm js T with
      | some r =>
        rw [hf] at hm5
        refine iteFq ((mis_non hm5).trans rfl) ⟨_, rfl, x, D.Clock.C, dx, _, _, rfl, hx5, D.Clock.cl, nM, cf_missed _ _ _ _, by show 3 ≤ sizeLine; decide, fun U nU => ?_⟩
        have sU := same_upd nU (o := .tup [mv, .non, .non])
        exact q _ U mv .non .non (some r) (s5.trans sU) upd_same (hm5.same sU) (fm_some (i := r.1) (t := r.2) hf).2
      | none =>
        rw [hf] at hm5
        obtain rfl : mv = .non := hm5
        have nm : NoM js T := fm_none.mp hf
        have hn : n ≤ (js.map (·.r)).sum + 1 := few per (fun k hk => ne k (k + 1) (Nat.lt_succ_self k) hk) (nm.mono (by
          cases n with
          | zero => exact Nat.zero_le _
          | succ n => rw [Nat.add_sub_cancel]; rw [Nat.mul_succ] at t2; omega))
        have hTB : T < c * ((js.map (·.r)).sum + 2) := by
          have := Nat.mul_le_mul_left c hn
          rw [Nat.mul_succ]
          omega
        obtain ⟨am1, am2⟩ := at_mult h1 t1 t2
        refine iteTq (decide_eq_true rfl) ⟨fun σ' H' => ∃ m', m' < c * ((js.map (·.r)).sum + 2) - T ∧ ∃ T n c2 c3 c6, m' = c * ((js.map (·.r)).sum + 2) - T ∧ T ≤ c * ((js.map (·.r)).sum + 2) ∧ σ' = [some (.ref a), some (.int (c : Nat)), c2, c3, some (.ref x), some (.ref M), c6] ∧ Same H2 H' ∧ Ck D.Clock.C H' x L a js T (lefts js T) (fm js T) ∧ H' M = some (.dT (mets js c n)) ∧ T ≤ c * n ∧ c * n < T + c ∧ (∀ k m, k < m → m < n → lefts js (c * k) ≠ lefts js (c * m)), fun _ _ h => h, ?_⟩
        refine ⟨_, rfl, x, D.Clock.C, dx, _, _, rfl, hx5, D.Clock.cl, nT, cf_tick _ _ _ _, _, rfl, T, c, rfl, rfl, h1, rfl, _, rfl, ?_⟩
        by_cases h0 : T % c = 0
        · have eT := am1 h0
          refine iteTq (decide_eq_true (by rw [h0]; rfl)) ⟨_, rfl, x, D.Clock.C, dx, _, _, rfl, hx5, D.Clock.cl, nL, cf_left _ _ _ _, L, _, rfl, .inl ⟨sqL hL5, fun U nU => ?_⟩⟩
          have sU := same_upd nU (o := .tup (nts (lefts js T)))
          have eU : (upd H5 U (.tup (nts (lefts js T)))) U = some (.tup (nts (lefts js T))) := upd_same
          have eM6 := sU _ _ eM5
          have s6 := s5.trans sU
          have ck6 := ck5.same sU
          have hx6 := sU _ _ hx5
          generalize upd H5 U (.tup (nts (lefts js T))) = H6 at eU eM6 s6 ck6 hx6 ⊢
          have eU' : H6 U = some (.tup ((keyL (lefts js T)).map kV)) := by rw [keyL_v]; exact eU
          refine ⟨_, rfl, _, rfl, M, _, rfl, DGet.t eM6 eU', _, rfl, ?_⟩
          cases hv : valV (mets js c n) (keyL (lefts js T)) with
          | some v =>
            refine iteTq rfl ⟨_, rfl, _, rfl, M, v, rfl, by rw [← hv]; exact DGet.t eM6 eU', _, rfl, x, D.Clock.C, dx, _, _, rfl, hx6, D.Clock.cl, nT, cf_tick _ _ _ _, by show 3 ≤ sizeLine; decide, fun W nW => ?_⟩
            obtain ⟨k, hk, hkl⟩ : ∃ k, k < n ∧ lefts js (c * k) = lefts js (c * n) := by
              rw [← eT]
              exact Classical.byContradiction fun z => by
                have := (mets_none (js := js) (c := c) (l := lefts js T) (n := n)).mpr fun k hk e => z ⟨k, hk, e⟩
                rw [hv] at this; cases this
            exact q _ W .non _ _ none (s6.trans (same_upd nW)) upd_same rfl (never_of_rep per hk hkl (by rw [← eT]; exact nm))
          | none =>
            have hne : ∀ k, k < n → lefts js (c * k) ≠ lefts js (c * n) := by rw [← eT]; exact mets_none.mp hv
            have hput : putK (mets js c n) (keyL (lefts js T)) (.int (T : Nat)) = mets js c (n + 1) := by rw [eT]; exact mets_put hne
            refine iteFq rfl ⟨_, rfl, x, D.Clock.C, dx, _, _, rfl, hx6, D.Clock.cl, nT, cf_tick _ _ _ _, _, rfl, _, rfl, M, _, rfl, DPut.t eM6 eU' (by rw [mets_len, sizeLine_eq]; have := rsum hok; omega), ?_⟩
            rw [hput]
            have kM : ∀ b o, b ≠ M → H6 b = some o → (upd H6 M (.dT (mets js c (n + 1)))) b = some o := fun b o hb e => by rw [upd_ne hb]; exact e
            have s7 : Same H2 (upd H6 M (.dT (mets js c (n + 1)))) := fun b o e => kM b o (ne_of_none e nMH) (s6 b o e)
            have ck7 := ck6.but kM nMx.symm nML.symm (fun xs z => by rw [eM6] at z; cases z)
            have hx7 := kM _ _ nMx.symm hx6
            have eM7 : (upd H6 M (.dT (mets js c (n + 1)))) M = some (.dT (mets js c (n + 1))) := upd_same
            generalize upd H6 M (.dT (mets js c (n + 1))) = H7 at s7 ck7 hx7 eM7 ⊢
            exact ⟨_, rfl, x, dx, _, rfl, hx7, cf_no _ _ _ _ (by decide +kernel) (by decide +kernel) (by decide +kernel) (by decide +kernel), x, L, a, js, T, _, _, rfl, ck7, hok, by omega, fun H6 k6 ck6 => ⟨_, by omega, T + 1, n + 1, _, _, _, rfl, by omega, rfl, same_k2 s7 k6 nx nL0, by rw [← fm_succ]; exact ck6, k6 _ _ nMx nML eM7, by rw [Nat.mul_succ, ← eT]; omega, by rw [Nat.mul_succ, ← eT]; omega, fun k m h1 h2 => by
              by_cases e : m = n
              · rw [e]; exact hne k (by omega)
              · exact ne k m h1 (by omega)⟩⟩
        · obtain ⟨b1, b2⟩ := am2 h0
          refine iteFq (decide_eq_false (fun z => h0 (by injection z with z; exact_mod_cast z))) ?_
          exact ⟨_, rfl, x, dx, _, rfl, hx5, cf_no _ _ _ _ (by decide +kernel) (by decide +kernel) (by decide +kernel) (by decide +kernel), x, L, a, js, T, _, _, rfl, ck5, hok, by omega, fun H6 k6 ck6 => ⟨_, by omega, T + 1, n, _, _, _, rfl, by omega, rfl, same_k2 s5 k6 nx nL0, by rw [← fm_succ]; exact ck6, k6 _ _ nMx nML eM5, b1, b2, ne⟩⟩
end
end K7

set_option Elab.async false
set_option linter.all false
set_option maxRecDepth 100000
set_option maxHeartbeats 4000000
namespace K7
open PySem PySem.Spec PyProof.Rows L2 GX NdefX
/-! ### who_runs, first_miss -/
/-- [e for _ in range(n)], where e changes what stands -/
theorem lcRngM {n : Nat} {g : TG} {te : TE} {vs : List Nat} {σ : L2.St} {H1 : Hp} {Q : Addr → Hp → Prop} (Iv : Addr → Nat → List V → Hp → Prop) (hn : n ≤ 4000)
    (h0 : ∀ D, H1 D = none → Iv D 0 [] (upd H1 D (.lst []))) (hD : ∀ D i us H, Iv D i us H → H D = some (.lst us) ∧ us.length = i)
    (turn : ∀ (D : Addr) (i : Nat) (us : List V) (H : Hp) (Qk : VK) (Qn : Hp → Prop), i < n → H1 D = none → Iv D i us H → (∀ y H4, H4 D = some (.lst us) → Iv D (i + 1) (us ++ [y]) (upd H4 D (.lst (us ++ [y]))) → Qk y H4) →
      g (.int (i : Nat)) (wipe σ vs) H fun σ2 H2 => wipe σ2 vs = wipe σ vs ∧ tYes σ2 H2 fun b H3 => if b = true then te σ2 H3 Qk else Qn H3)
    (done : ∀ D us H, H1 D = none → Iv D n us H → Q D H) : LcD (Itr 0 n) g tYes te vs σ H1 Q := by
  refine fun D nD => ⟨fun i m H => m = n - i ∧ i ≤ n ∧ ∃ us, Iv D i us H, ⟨n, rfl, Nat.zero_le _, [], h0 D nD⟩, ?_⟩
  rintro i m H ⟨rfl, hi, us, iv⟩
  obtain ⟨eD, hl⟩ := hD D i us H iv
  by_cases hlt : i < n
  · refine .inr ⟨hlt, fun H' => ∃ us, Iv D (i + 1) us H', fun H' p => ⟨n - (i + 1), by omega, rfl, hlt, p⟩, fun x H' y => ?_⟩
    obtain ⟨rfl, rfl⟩ := y
    rw [Int.zero_add]
    exact turn D i us _ _ _ hlt nD iv fun y H4 e4 iv4 => ⟨us, e4, by rw [hl, sizeLine_eq]; omega, _, iv4⟩
  · obtain rfl : i = n := by omega
    exact .inl ⟨Nat.le_refl _, done D us H nD iv⟩
def whoT (js : List Job) (n : Nat) : List V := (List.range n).map fun i => .int (whoV (whoR js i))
theorem whoT_succ (js : List Job) (n : Nat) : whoT js (n + 1) = whoT js n ++ [.int (whoV (whoR js n))] := by
  unfold whoT; rw [List.range_succ, List.map_append]; rfl
theorem whoT_len (js : List Job) (n : Nat) : (whoT js n).length = n := by unfold whoT; rw [List.length_map, List.length_range]
def spWho (CN CM : Addr) : Sp := fun vs H Q E => ∃ x j, ∃ t : Int, vs = [x, .int t] ∧ JbAt H x j ∧ Chkd CN CM E H (fun js => if 0 ≤ t then t ≤ 4000 ∧ ∀ T H', Same H H' → H' T = some (.tup (whoT js t.toNat)) → Q (.ref T) H' else Rai E CN H [("word", .str "ticks")]) (chk j)
def spFirst (CN CM : Addr) : Sp := fun vs H Q E => ∃ x j, vs = [x] ∧ JbAt H x j ∧ Chkd CN CM E H (fun js => ∀ mv H' r, Same H H' → MisV H' mv r → IsFM js r → Q mv H') (chk j)
section
variable {P : Program} {w : World} {K : PySem.W.Frag} {mg : Str → Option Value} {base : Heap}
theorem ok_first {k : Nat} (D : Pr P K mg) : FnOk P w K mg base (CX P w) (k + 4) D.first_miss.f D.first_miss.fd ["jobs"] (spFirst D.BadNumber.C D.TooMany.C) := by
  have G_check_jobs : FnOk P w K mg base (CX P w) (k + 3) D.check_jobs.f D.check_jobs.fd ["jobs"] (spCheck D.BadNumber.C D.TooMany.C) := ok_check_jobs D
  have G_settled : FnOk P w K mg base CX0 (k + 3) D.settled.f D.settled.fd ["jobs"] spSettled := ok_settled D
  refine D.first_miss.F.okX sc_first_miss (fun vs H Q E h => ?_) (fun cdv A outer s H vs Q E hr h => ?_)
  · obtain ⟨x, j, rfl, _⟩ := h
    rfl
  · obtain ⟨x, j, rfl, hj, q⟩ := h
    refine ⟨_, (pss_one (ps_ret (pe_ix (r := rIxT K) ix_tup (pe_call G_settled hr (by rfl) D.settled.g D.settled.F.kp D.settled.b .nil pass0 (pa_cons (pe_call G_check_jobs hr (by rfl) D.check_jobs.g D.check_jobs.F.kp D.check_jobs.b .nil (passes_call (takes_of rfl rfl rfl rfl) (fun _ _ _ _ h => h)) (pa_cons (pv 0) pa_nil)) pa_nil)) pe_int (fun _ _ => rfl)))), ?_⟩
    refine ⟨x, rfl, x, j, rfl, hj, ?_⟩
    cases ec : chk j with
    | num => rw [ec] at q; exact q
    | many => rw [ec] at q; exact q
    | ok js =>
      rw [ec] at q
      obtain ⟨hl, hok⟩ := chk_ok ec
      refine fun a H1 s1 jt => ⟨a, js, rfl, jt, hok, hl, fun H2 T mv x y r s2 eT hm fm => ?_⟩
      exact ⟨T, _, 0, mv, rfl, rfl, sqT eT, atI_nat (j := 0) rfl, q mv H2 r (s1.trans s2) hm fm⟩
theorem ok_who {k : Nat} (D : Pr P K mg) : FnOk P w K mg base (CX P w) (k + 4) D.who_runs.f D.who_runs.fd ["jobs", "ticks"] (spWho D.BadNumber.C D.TooMany.C) := by
  have G_check_jobs : FnOk P w K mg base (CX P w) (k + 3) D.check_jobs.f D.check_jobs.fd ["jobs"] (spCheck D.BadNumber.C D.TooMany.C) := ok_check_jobs D
  have G_is_whole : FnOk P w K mg base CX0 (k + 1) D.is_whole.f D.is_whole.fd ["value", "least", "most"] spWholeN := ok_wholeN D
  have GX_BadNumber : FnOk P w K mg base CX0 (k + 1) D.BadNumber.f D.BadNumber.fd ["self", "word"] (spWord D.BadNumber.C) := ok_word D
  have G_Clock_init : FnOk P w K mg base CX0 (k + 1) D.Clock.f D.Clock.fd ["self", "jobs"] (spInit D.Clock.C) := ok_init D
  have G_Clock_run_tick : FnOk P w K mg base CX0 (k + 1) D.Clock_run_tick.f D.Clock_run_tick.fd ["self"] (spTick D.Clock.C) := ok_tick D
  refine D.who_runs.F.okX sc_who_runs (fun vs H Q E h => ?_) (fun cdv A outer s H vs Q E hr h => ?_)
  · obtain ⟨x, j, t, rfl, _⟩ := h
    rfl
  · obtain ⟨x, j, t, rfl, hj, q⟩ := h
    refine ⟨_, (pss_cons (ps_set (i := 2) sc_who_runs.nd rfl (.inr rfl) (pe_make D.Clock.M G_Clock_init (hr.mono (by omega)) (by rfl) D.Clock.g D.Clock.b .nil pass0 (pa_cons (pe_call G_check_jobs hr (by rfl) D.check_jobs.g D.check_jobs.F.kp D.check_jobs.b .nil (passes_call (takes_of rfl rfl rfl rfl) (fun _ _ _ _ h => h)) (pa_cons (pv 0) pa_nil)) pa_nil)))
      (pss_cons (ps_if (pt_not (pt_val (pe_call G_is_whole (hr.mono (by omega)) (by rfl) D.is_whole.g D.is_whole.F.kp D.is_whole.b .nil pass0 (pa_cons (pv 1) (pa_cons pe_int (pa_cons pe_non pa_nil)))))) (pss_one (ps_raise rfl (takes_of rfl rfl rfl rfl) (pmk_oex D.BadNumber.T.O D.BadNumber.T.iC D.BadNumber.T.tI GX_BadNumber (hr.mono (by omega)) D.BadNumber.b .nil pass0 (by rfl) D.BadNumber.g (pa_cons pe_str pa_nil)))) pss_nil)
      (pss_one (ps_ret (pe_callTy call_tuple_of (by rfl) D.B.tuple (by decide +kernel) (pa_cons (pe_lc (own := [("_", 3)]) (g := (gName 3)) (tt := tYes) rfl sc_who_runs.nd (pi_range1 (by rfl) D.B.range (pa_cons (pv 1) pa_nil)) (blkOk_by (own := [("_", 3)]) (N := n_who_runs) (sc := defScope s_who_runs) (by decide +kernel)) (fun _ _ _ _ _ => (pg_name (i := 3) sc_who_runs.nd rfl (.inl rfl))) (fun _ _ _ _ _ => pts_nil) (fun _ _ _ _ _ => (pe_meth0 (pv 2) D.Clock.cl D.Clock_run_tick.M G_Clock_run_tick (hr.mono (by omega)) D.Clock_run_tick.b .nil pass0))) pa_nil)))))), ?_⟩
    refine ⟨x, rfl, x, j, rfl, hj, ?_⟩
    cases ec : chk j with
    | num => rw [ec] at q; exact q
    | many => rw [ec] at q; exact q
    | ok js =>
      rw [ec] at q
      obtain ⟨hl, hok⟩ := chk_ok ec
      refine fun a H1 s1 jt c dx nc ndx nec => mk_clock jt (by omega) nc ndx nec (fun H2 L s2 nLc nL0 ck => ?_) _
      have s12 := s1.trans s2
      refine ⟨.int t, rfl, t, 0, rfl, _, rfl, ?_⟩
      by_cases h0 : 0 ≤ t
      · rw [Chkd, if_pos h0] at q
        obtain ⟨t4, q⟩ := q
        rw [decide_eq_true h0]
        refine iteF ⟨.int t, rfl, t, rfl, by omega, by omega, ?_⟩
        refine lcRngM (n := t.toNat) (fun Dl i us H' => us = whoT js i ∧ H' Dl = some (.lst us) ∧ Same H1 H' ∧ ∃ m, Ck D.Clock.C H' c L a js i (lefts js i) m) (by omega) ?_ ?_ ?_ ?_
        · exact fun Dl nDl => ⟨rfl, upd_same, s2.trans (same_upd nDl), _, ck.same (same_upd nDl)⟩
        · exact fun Dl i us H' h => ⟨h.2.1, by rw [h.1, whoT_len]⟩
        · rintro Dl i us H3 Qk Qn hi nDl ⟨rfl, eD, s3, m, ck3⟩ hk
          obtain ⟨⟨dx3, mv3, hc3, hm3⟩, hL3, hj3, ln3⟩ := id ck3
          have nDc : Dl ≠ c := fun z => by rw [z, hc3] at eD; cases eD
          have nDL : Dl ≠ L := fun z => by obtain ⟨⟨_, _, e, _⟩, e2, _, _⟩ := ck; rw [z, e2] at nDl; cases nDl
          refine ⟨rfl, iteT (B := Qn H3) ⟨_, rfl, c, dx3, _, rfl, hc3, cf_no _ _ _ _ (by decide +kernel) (by decide +kernel) (by decide +kernel) (by decide +kernel), c, L, a, js, i, _, _, rfl, ck3, hok, by omega, fun H4 k4 ck4 => ?_⟩⟩
          have eD4 := k4 _ _ nDc nDL eD
          have s4 : Same H1 H4 := same_k2 s3 k4 nc nL0
          refine hk _ H4 eD4 ⟨(whoT_succ js i).symm, upd_same, fun b o e => ?_, mNext m (miss js i (lefts js i)) i, ?_⟩
          · rw [upd_ne (ne_of_none (s2 _ _ e) nDl)]
            exact s4 _ _ e
          · exact ck4.but (fun b o hb e => by rw [upd_ne hb]; exact e) nDc.symm nDL.symm (fun xs z => by rw [eD4] at z; cases z)
        · rintro Dl us H3 nDl ⟨rfl, eD, s3, _⟩
          exact ⟨Dl, _, rfl, .inl ⟨sqL eD, fun l nl => q l _ (s1.trans (s3.trans (same_upd nl))) upd_same⟩⟩
      · rw [Chkd, if_neg h0] at q
        rw [decide_eq_false h0]
        exact iteT (mkO_word (by decide +kernel) q s12)
end
end K7

set_option Elab.async false
set_option linter.all false
set_option maxRecDepth 100000
set_option maxHeartbeats 4000000
namespace K7
open PySem PySem.Spec L2
/-! ### how long the jobs of a place take -/
def jobAt (js : List Job) (i : Nat) : Job := js.getD i default
theorem jobAt_get {js : List Job} {i : Nat} {j : Job} (h : js[i]? = some j) : jobAt js i = j := by
  unfold jobAt
  rw [List.getD_eq_getElem?_getD, h]
  rfl
def ends (js : List Job) (pl : Nat) : Nat → List Int
  | 0 => []
  | t + 1 => if whoR js t = some pl ∧ (lefts js (t + 1))[pl]? = some 0 then ends js pl t ++ [((t + 1 : Nat) : Int) - ((jobAt js pl).o : Nat) - (((ends js pl t).length : Nat) : Int) * ((jobAt js pl).p : Nat)] else ends js pl t
theorem ends_len1 (js : List Job) (pl t : Nat) : (ends js pl (t + 1)).length ≤ (ends js pl t).length + 1 := by
  show (if _ then _ else _ : List Int).length ≤ _
  split
  · rw [List.length_append]; exact Nat.le_refl _
  · omega
theorem run_at : ∀ (b : List Nat) (i x : Nat), b[i]? = some x → (runW b = some i → 0 < x ∧ (runL b)[i]? = some (x - 1)) ∧ (runW b ≠ some i → (runL b)[i]? = some x)
  | [], i, x, h => by simp at h
  | 0 :: b, 0, x, h => by
    obtain rfl : 0 = x := by simpa using h
    refine ⟨fun e => ?_, fun _ => rfl⟩
    have e : (runW b).map (· + 1) = some 0 := e
    obtain ⟨y, _, z⟩ := Option.map_eq_some_iff.mp e
    omega
  | 0 :: b, i + 1, x, h => by
    obtain ⟨h1, h2⟩ := run_at b i x (by simpa using h)
    refine ⟨fun e => ?_, fun e => ?_⟩
    · have e : (runW b).map (· + 1) = some (i + 1) := e
      obtain ⟨y, hy, z⟩ := Option.map_eq_some_iff.mp e
      obtain rfl : y = i := by omega
      exact h1 hy
    · exact h2 fun z => e (by show (runW b).map (· + 1) = some (i + 1); rw [z]; rfl)
  | (y + 1) :: b, 0, x, h => by
    obtain rfl : y + 1 = x := by simpa using h
    exact ⟨fun _ => ⟨by omega, rfl⟩, fun e => absurd rfl e⟩
  | (y + 1) :: b, i + 1, x, h => by
    refine ⟨fun e => ?_, fun _ => by show (y :: b)[i + 1]? = some x; simpa using h⟩
    have e : some 0 = some (i + 1) := e
    cases e
theorem paired_ix {α β : Type} {F : α → β → Prop} : ∀ {xs : List α} {ys : List β}, Paired F xs ys → ∀ {i : Nat} {x : α} {y : β}, xs[i]? = some x → ys[i]? = some y → F x y
  | _, _, .nil, i, x, y, h, _ => by simp at h
  | _, _, .cons f t, 0, x, y, h, k => by
    cases h; cases k; exact f
  | _, _, .cons f t, i + 1, x, y, h, k => paired_ix t (by simpa using h) (by simpa using k)
/-- what is run of the job at pl -/
def Runs (js : List Job) (pl T run : Nat) : Prop := ∃ x, (lefts js T)[pl]? = some x ∧ ((x = 0 ∧ run = 0) ∨ (0 < x ∧ run + x = (jobAt js pl).r))
theorem runs_zero {js : List Job} {pl : Nat} (h : pl < js.length) : Runs js pl 0 0 := ⟨0, by show (List.replicate js.length 0)[pl]? = some 0; rw [List.getElem?_replicate, if_pos h], .inl ⟨rfl, rfl⟩⟩
/-- ahead of the run -/
theorem runs_mid {js : List Job} {pl T run : Nat} {j : Job} (hj : js[pl]? = some j) (hr : 1 ≤ j.r) (hm : miss js T (lefts js T) = none) (h : Runs js pl T run) : ∃ b, (arr js T (lefts js T))[pl]? = some b ∧ ((b = 0 ∧ run = 0) ∨ (0 < b ∧ run + b = j.r)) := by
  obtain ⟨x, hx, h⟩ := h
  rw [jobAt_get hj] at h
  refine ⟨_, arr_get hj hx, ?_⟩
  have c0 := paired_ix (missF_none (lefts_len js T) hm) hj hx
  unfold come1
  by_cases c : comes j T = true
  · rw [if_pos c]
    have := c0 c
    omega
  · rw [if_neg c]; exact h
theorem runs_next {js : List Job} {pl T run : Nat} {j : Job} (hj : js[pl]? = some j) (hr : 1 ≤ j.r) (hm : miss js T (lefts js T) = none) (h : Runs js pl T run) :
    (whoR js T = some pl → (run + 1 = j.r → ends js pl (T + 1) = ends js pl T ++ [((T + 1 : Nat) : Int) - (j.o : Nat) - (((ends js pl T).length : Nat) : Int) * (j.p : Nat)] ∧ Runs js pl (T + 1) 0) ∧ (run + 1 ≠ j.r → ends js pl (T + 1) = ends js pl T ∧ Runs js pl (T + 1) (run + 1))) ∧
    (whoR js T ≠ some pl → ends js pl (T + 1) = ends js pl T ∧ Runs js pl (T + 1) run) := by
  obtain ⟨b, hb, hbr⟩ := runs_mid hj hr hm h
  obtain ⟨r1, r2⟩ := run_at _ pl b hb
  have ej := jobAt_get hj
  have un : ends js pl (T + 1) = if whoR js T = some pl ∧ (lefts js (T + 1))[pl]? = some 0 then ends js pl T ++ [((T + 1 : Nat) : Int) - ((jobAt js pl).o : Nat) - (((ends js pl T).length : Nat) : Int) * ((jobAt js pl).p : Nat)] else ends js pl T := rfl
  refine ⟨fun e => ?_, fun e => ?_⟩
  · obtain ⟨b0, hn⟩ := r1 e
    have hn : (lefts js (T + 1))[pl]? = some (b - 1) := hn
    refine ⟨fun er => ?_, fun er => ?_⟩
    · have b1 : b - 1 = 0 := by omega
      rw [b1] at hn
      refine ⟨?_, 0, hn, .inl ⟨rfl, rfl⟩⟩
      rw [un, if_pos ⟨e, hn⟩, ej]
    · refine ⟨?_, b - 1, hn, .inr ⟨by omega, by rw [ej]; omega⟩⟩
      rw [un, if_neg]
      rintro ⟨_, z⟩
      rw [hn] at z
      have := Option.some.inj z
      omega
  · have hn : (lefts js (T + 1))[pl]? = some b := r2 e
    refine ⟨?_, b, hn, ?_⟩
    · rw [un, if_neg (fun z => e z.1)]
    · rw [ej]; exact hbr
/-! ### how many there are -/
def cameN (j : Job) (T : Nat) : Nat := T / j.p + (if j.o < T % j.p then 1 else 0)
theorem cameN_succ {j : Job} (h : JOk j) (T : Nat) : cameN j (T + 1) = cameN j T + (if comes j T = true then 1 else 0) := by
  have hp := h.p1
  have ho := h.o1
  have e := Nat.div_add_mod T j.p
  have hs := Nat.mod_lt T (show 0 < j.p by omega)
  have hc : comes j T = true ↔ T % j.p = j.o := by unfold comes; rw [beq_iff_eq]
  unfold cameN
  generalize T / j.p = q at e ⊢
  generalize hsm : T % j.p = s at e hs hc ⊢
  by_cases z : s + 1 < j.p
  · have e2 : T + 1 = j.p * q + (s + 1) := by omega
    have d : (T + 1) / j.p = q := by rw [e2, Nat.mul_add_div (by omega), Nat.div_eq_of_lt z, Nat.add_zero]
    have m : (T + 1) % j.p = s + 1 := by rw [e2, Nat.mul_add_mod, Nat.mod_eq_of_lt z]
    rw [d, m]
    by_cases c : comes j T = true
    · rw [if_pos c]; have := hc.mp c; rw [if_pos (by omega), if_neg (by omega)]
    · rw [if_neg c]
      have : s ≠ j.o := fun y => c (hc.mpr y)
      by_cases o : j.o < s
      · rw [if_pos (by omega), if_pos o]
      · rw [if_neg (by omega), if_neg o]
  · have e2 : T + 1 = j.p * (q + 1) := by rw [Nat.mul_succ]; omega
    have d : (T + 1) / j.p = q + 1 := by rw [e2, Nat.mul_div_cancel_left _ (by omega)]
    have m : (T + 1) % j.p = 0 := by rw [e2, Nat.mul_mod_right]
    rw [d, m, if_neg (by omega)]
    by_cases c : comes j T = true
    · rw [if_pos c]; have := hc.mp c; rw [if_neg (by omega)]
    · rw [if_neg c]
      have : s ≠ j.o := fun y => c (hc.mpr y)
      rw [if_pos (by omega)]
def Cnt (js : List Job) (pl T : Nat) : Prop := ∃ x, (lefts js T)[pl]? = some x ∧ cameN (jobAt js pl) T = (ends js pl T).length + (if 0 < x then 1 else 0)
theorem cnt_at {js : List Job} {pl : Nat} {j : Job} (hj : js[pl]? = some j) (ok : JOk j) : ∀ {T : Nat}, NoM js T → Cnt js pl T
  | 0, _ => ⟨0, by show (List.replicate js.length 0)[pl]? = some 0; rw [List.getElem?_replicate, if_pos (List.getElem?_eq_some_iff.mp hj).1], by
      rw [jobAt_get hj]; unfold cameN; rw [Nat.zero_div, Nat.zero_mod, if_neg (by omega)]; rfl⟩
  | T + 1, n => by
    obtain ⟨x, hx, h⟩ := cnt_at hj ok (n.mono (Nat.le_succ T))
    rw [jobAt_get hj] at h
    have hm := n T (Nat.lt_succ_self T)
    have c0 := paired_ix (missF_none (lefts_len js T) hm) hj hx
    have hr := ok.r1
    have hb := arr_get (t := T) hj hx
    have ej := jobAt_get hj
    have hA : cameN j (T + 1) = (ends js pl T).length + (if 0 < come1 T j x then 1 else 0) := by
      rw [cameN_succ ok, h]
      unfold come1
      by_cases c : comes j T = true
      · rw [if_pos c, if_pos c, c0 c, if_neg (by omega), if_pos (by omega)]
      · rw [if_neg c, if_neg c]; rfl
    obtain ⟨r1, r2⟩ := run_at _ pl _ hb
    have un : ends js pl (T + 1) = if whoR js T = some pl ∧ (lefts js (T + 1))[pl]? = some 0 then ends js pl T ++ [((T + 1 : Nat) : Int) - ((jobAt js pl).o : Nat) - (((ends js pl T).length : Nat) : Int) * ((jobAt js pl).p : Nat)] else ends js pl T := rfl
    by_cases e : whoR js T = some pl
    · obtain ⟨b0, hn⟩ := r1 e
      have hn : (lefts js (T + 1))[pl]? = some (come1 T j x - 1) := hn
      refine ⟨_, hn, ?_⟩
      rw [ej, hA, if_pos b0]
      by_cases z : come1 T j x - 1 = 0
      · rw [un, if_pos ⟨e, by rw [hn, z]⟩, List.length_append, if_neg (by omega)]; rfl
      · rw [un, if_neg (fun y => z (by have := y.2; rw [hn] at this; exact Option.some.inj this)), if_pos (by omega)]
    · refine ⟨_, r2 e, ?_⟩
      rw [ej, hA, un, if_neg (show ¬(whoR js T = some pl ∧ (lefts js (T + 1))[pl]? = some 0) from fun z => e z.1)]
theorem ends_many {js : List Job} {pl : Nat} {j : Job} (hj : js[pl]? = some j) (ok : JOk j) {T n : Nat} (nm : NoM js T) (h : j.p * (n + 1) ≤ T) : n ≤ (ends js pl T).length := by
  obtain ⟨x, hx, e⟩ := cnt_at hj ok nm
  rw [jobAt_get hj] at e
  have : n + 1 ≤ T / j.p := (Nat.le_div_iff_mul_le (by have := ok.p1; omega)).mpr (by rw [Nat.mul_comm]; exact h)
  have : T / j.p ≤ cameN j T := Nat.le_add_right _ _
  have : (if 0 < x then 1 else 0) ≤ 1 := by split <;> omega
  omega
/-- what job_ends tells -/
def IsEnds (js : List Job) (pl many : Nat) (r : List Int) : Prop := ∃ T, NoM js T ∧ (∀ t, t < T → (ends js pl t).length < many) ∧ (many ≤ (ends js pl T).length ∨ miss js T (lefts js T) ≠ none) ∧ r = ends js pl T
theorem IsEnds.uniq {js : List Job} {pl many : Nat} {r s : List Int} (h : IsEnds js pl many r) (k : IsEnds js pl many s) : r = s := by
  obtain ⟨T, h1, h2, h3, rfl⟩ := h
  obtain ⟨S, k1, k2, k3, rfl⟩ := k
  rcases Nat.lt_trichotomy T S with z | z | z
  · rcases h3 with y | y
    · have := k2 T z; omega
    · exact absurd (k1 T z) y
  · rw [z]
  · rcases k3 with y | y
    · have := h2 S z; omega
    · exact absurd (h1 S z) y
end K7

set_option Elab.async false
set_option linter.all false
set_option maxRecDepth 100000
set_option maxHeartbeats 4000000
namespace K7
open PySem PySem.Spec PyProof.Rows L2 GX NdefX
/-! ### job_ends -/
def vInts (l : List Int) : List V := l.map V.int
def spEnds (CN CM : Addr) : Sp := fun vs H Q E => ∃ x j, ∃ (pl many : Int), vs = [x, .int pl, .int many] ∧ JbAt H x j ∧ Chkd CN CM E H (fun js => if 0 ≤ pl ∧ pl < js.length then (if 0 ≤ many ∧ many ≤ 200 then ∀ T H' r, Same H H' → H' T = some (.tup (vInts r)) → IsEnds js pl.toNat many.toNat r → Q (.ref T) H' else Rai E CN H [("word", .str "many")]) else Rai E CN H [("word", .str "place")]) (chk j)
def bnd (j : Job) (many : Nat) : Option (Nat × Nat) → Nat
  | some (_, m) => m
  | none => j.p * (many + 1)
theorem whoV_eq {o : Option Nat} {n : Nat} : decide (V.int (whoV o) = V.int ((n : Nat) : Int)) = decide (o = some n) := by
  refine decide_eq_decide.mpr ⟨fun h => ?_, fun h => by rw [h]; rfl⟩
  injection h with h
  cases o with
  | none => have h : (-1 : Int) = (n : Nat) := h; omega
  | some i => have h : ((i : Nat) : Int) = (n : Nat) := h; rw [show i = n by omega]
section
variable {P : Program} {w : World} {K : PySem.W.Frag} {mg : Str → Option Value} {base : Heap}
theorem ok_ends {k : Nat} (D : Pr P K mg) : FnOk P w K mg base (CX P w) (k + 4) D.job_ends.f D.job_ends.fd ["jobs", "place", "many"] (spEnds D.BadNumber.C D.TooMany.C) := by
  have G_check_jobs : FnOk P w K mg base (CX P w) (k + 3) D.check_jobs.f D.check_jobs.fd ["jobs"] (spCheck D.BadNumber.C D.TooMany.C) := ok_check_jobs D
  have G_check_place : FnOk P w K mg base (CX P w) (k + 3) D.check_place.f D.check_place.fd ["jobs", "place"] (spPlace D.BadNumber.C) := ok_place D
  have G_is_whole : FnOk P w K mg base CX0 (k + 1) D.is_whole.f D.is_whole.fd ["value", "least", "most"] spWhole := ok_whole D
  have GX_BadNumber : FnOk P w K mg base CX0 (k + 1) D.BadNumber.f D.BadNumber.fd ["self", "word"] (spWord D.BadNumber.C) := ok_word D
  have G_settled : FnOk P w K mg base CX0 (k + 3) D.settled.f D.settled.fd ["jobs"] spSettled := ok_settled D
  have G_Clock_init : FnOk P w K mg base CX0 (k + 1) D.Clock.f D.Clock.fd ["self", "jobs"] (spInit D.Clock.C) := ok_init D
  have G_Clock_run_tick : FnOk P w K mg base CX0 (k + 1) D.Clock_run_tick.f D.Clock_run_tick.fd ["self"] (spTick D.Clock.C) := ok_tick D
  refine D.job_ends.F.okX sc_job_ends (fun vs H Q E h => ?_) (fun cdv A outer s H vs Q E hr h => ?_)
  · obtain ⟨x, j, pl, many, rfl, _⟩ := h
    rfl
  · obtain ⟨x, j, pl, many, rfl, hj, q⟩ := h
    refine ⟨_, (pss_cons (ps_set (i := 3) sc_job_ends.nd rfl (.inl rfl) (pe_call G_check_jobs hr (by rfl) D.check_jobs.g D.check_jobs.F.kp D.check_jobs.b .nil (passes_call (takes_of rfl rfl rfl rfl) (fun _ _ _ _ h => h)) (pa_cons (pv 0) pa_nil)))
      (pss_cons (ps_expr (pe_call G_check_place hr (by rfl) D.check_place.g D.check_place.F.kp D.check_place.b .nil (passes_call (takes_of rfl rfl rfl rfl) (fun _ _ _ _ h => h)) (pa_cons (pv 3) (pa_cons (pv 1) pa_nil))))
      (pss_cons (ps_if (pt_not (pt_val (pe_call G_is_whole (hr.mono (by omega)) (by rfl) D.is_whole.g D.is_whole.F.kp D.is_whole.b .nil pass0 (pa_cons (pv 2) (pa_cons pe_int (pa_cons pe_int pa_nil)))))) (pss_one (ps_raise rfl (takes_of rfl rfl rfl rfl) (pmk_oex D.BadNumber.T.O D.BadNumber.T.iC D.BadNumber.T.tI GX_BadNumber (hr.mono (by omega)) D.BadNumber.b .nil pass0 (by rfl) D.BadNumber.g (pa_cons pe_str pa_nil)))) pss_nil)
      (pss_cons (ps_asg (pe_call G_settled hr (by rfl) D.settled.g D.settled.F.kp D.settled.b .nil pass0 (pa_cons (pv 3) pa_nil)) (pg_tup rfl (pgs_cons (pg_name (i := 4) sc_job_ends.nd rfl (.inl rfl)) (pgs_cons (pg_name (i := 5) sc_job_ends.nd rfl (.inl rfl)) (pgs_cons (pg_name (i := 5) sc_job_ends.nd rfl (.inl rfl)) pgs_nil)))))
      (pss_cons (ps_asg (pe_ix (r := rIxT K) ix_tup (pv 3) (pv 1) (fun _ _ => rfl)) (pg_tup rfl (pgs_cons (pg_name (i := 6) sc_job_ends.nd rfl (.inl rfl)) (pgs_cons (pg_name (i := 7) sc_job_ends.nd rfl (.inl rfl)) (pgs_cons (pg_name (i := 8) sc_job_ends.nd rfl (.inl rfl)) pgs_nil)))))
      (pss_cons (ps_set (i := 9) sc_job_ends.nd rfl (.inl rfl) (pe_make D.Clock.M G_Clock_init (hr.mono (by omega)) (by rfl) D.Clock.g D.Clock.b .nil pass0 (pa_cons (pv 3) pa_nil)))
      (pss_cons (ps_set (i := 10) sc_job_ends.nd rfl (.inl rfl) (pe_lst pa_nil))
      (pss_cons (ps_set (i := 11) sc_job_ends.nd rfl (.inl rfl) pe_int)
      (pss_cons (ps_while (by passes_own) (PW.pt (pw_and (pt_cmpR op_lt (pe_callB call_len (by rfl) D.B.len PySem.boot_len (pa_cons (pv 10) pa_nil)) (pv 2) (nomark _)) (pw_and1 (PW.pt (pw_or (pt_cmpR op_isN (pv 4) pe_non (nomark _)) (pw_or1 (pt_cmpR op_lt (pe_fld (pv 9) rfl) (pe_ix (r := rIxT K) ix_tup (pv 4) pe_int (fun _ _ => rfl)) (nomark _)))))))) (pss_one (ps_if (pt_cmpR op_eq (pe_meth0 (pv 9) D.Clock.cl D.Clock_run_tick.M G_Clock_run_tick (hr.mono (by omega)) D.Clock_run_tick.b .nil pass0) (pv 1) (nomark _)) (pss_cons (ps_aug (i := 11) sc_job_ends.nd rfl (.inl rfl) pe_int ip_add) (pss_one (ps_if (pt_cmpR op_eq (pv 11) (pv 6) (nomark _)) (pss_cons (ps_expr (pe_bm PySem.F.plainAttrs_list PySem.F.slot_list_append PySem.F.type_list_append mt_append (pv 10) (pa_cons (pe_op op_sub (pe_op op_sub (pe_fld (pv 9) rfl) (pv 8)) (pe_mul (pe_callB call_len (by rfl) D.B.len PySem.boot_len (pa_cons (pv 10) pa_nil)) (pv 7))) pa_nil))) (pss_one (ps_set (i := 11) sc_job_ends.nd rfl (.inl rfl) pe_int))) pss_nil))) pss_nil)))
      (pss_one (ps_ret (pe_callTy call_tuple_of (by rfl) D.B.tuple (by decide +kernel) (pa_cons (pv 10) pa_nil))))))))))))), ?_⟩
    refine ⟨x, rfl, x, j, rfl, hj, ?_⟩
    cases ec : chk j with
    | num => rw [ec] at q; exact q
    | many => rw [ec] at q; exact q
    | ok js =>
      rw [ec] at q
      obtain ⟨hl, hok⟩ := chk_ok ec
      refine fun a H1 s1 jt => ?_
      obtain ⟨ts, ha, pt⟩ := id jt
      have lts := jt_len pt
      refine ⟨.ref a, rfl, .int pl, rfl, a, ts, pl, rfl, ha, by omega, ?_⟩
      rw [lts]
      rw [Chkd] at q
      by_cases hp : 0 ≤ pl ∧ pl < js.length
      rotate_left
      · rw [if_neg hp] at q ⊢
        exact q.same s1
      rw [if_pos hp] at q ⊢
      refine ⟨.int many, rfl, .int many, 0, 200, rfl, .inl ⟨many, rfl⟩, _, rfl, ?_⟩
      have ew : wholeV 0 200 (.int many) = (decide (0 ≤ many) && decide (many ≤ 200)) := rfl
      rw [ew, ← Bool.decide_and]
      by_cases hm : 0 ≤ many ∧ many ≤ 200
      rotate_left
      · rw [if_neg hm] at q
        rw [decide_eq_false hm]
        exact iteT (mkO_word (by decide +kernel) q s1)
      rw [if_pos hm] at q
      rw [decide_eq_true hm]
      refine iteF ?_
      obtain ⟨p, rfl⟩ : ∃ p : Nat, pl = (p : Nat) := ⟨pl.toNat, by omega⟩
      obtain ⟨mn, rfl⟩ : ∃ m : Nat, many = (m : Nat) := ⟨many.toNat, by omega⟩
      have hpl : p < js.length := by omega
      rw [Int.toNat_natCast, Int.toNat_natCast] at q
      obtain ⟨j1, hj1⟩ : ∃ j1, js[p]? = some j1 := ⟨_, List.getElem?_eq_getElem hpl⟩
      have ok1 := hok j1 (List.mem_of_getElem? hj1)
      refine ⟨.ref a, rfl, a, js, rfl, jt, hok, hl, fun H2 U mv y1 y2 r s2 eU hmv hfm => ?_⟩
      have s12 := s1.trans s2
      obtain ⟨ts2, ha2, pt2⟩ := jt.same s2
      have lts2 := jt_len pt2
      obtain ⟨j1', b, hj1', hbx, hb⟩ := jobs_got pt2 (List.getElem?_eq_getElem (show p < ts2.length by omega))
      rw [hj1] at hj1'
      cases hj1'
      refine ⟨U, _, rfl, sqT eU, rfl, _, _, rfl, _, _, rfl, _, _, rfl, rfl, ?_⟩
      refine ⟨_, rfl, _, rfl, a, ts2, p, .ref b, rfl, rfl, sqT ha2, atI_nat (by rw [List.getElem?_eq_getElem (show p < ts2.length by omega), hbx]), b, _, rfl, sqT hb, rfl, _, _, rfl, _, _, rfl, _, _, rfl, rfl, ?_⟩
      refine ⟨_, rfl, fun c dx nc ndx nec => mk_clock (jt.same s2) (by omega) nc ndx nec (fun H3 L s3 nLc nL0 ck => ?_) _⟩
      refine ⟨by decide, fun M nM => ?_⟩
      have nMc : M ≠ c := fun z => by obtain ⟨⟨_, _, e, _⟩, _⟩ := ck; rw [z, e] at nM; cases nM
      have nML : M ≠ L := fun z => by rw [z, ck.lst] at nM; cases nM
      have sM := same_upd nM (o := .lst [])
      have ckM := ck.same sM
      have sHM := s3.trans sM
      have nMH := s3.free nM
      have eM : upd H3 M (.lst []) M = some (.lst []) := upd_same
      generalize upd H3 M (.lst []) = H4 at ckM eM sM sHM ⊢
      refine ⟨fun m σ H' => ∃ T run c5, m = bnd j1 mn r - T ∧ σ = [some x, some (.int (p : Nat)), some (.int (mn : Nat)), some (.ref a), some mv, c5, some (.int (j1.r : Nat)), some (.int (j1.p : Nat)), some (.int (j1.o : Nat)), some (.ref c), some (.ref M), some (.int (run : Nat))] ∧ Same H2 H' ∧ (∃ f, Ck D.Clock.C H' c L a js T (lefts js T) f) ∧ H' M = some (.lst (vInts (ends js p T))) ∧ NoM js T ∧ (∀ t, t < T → (ends js p t).length < mn) ∧ Runs js p T run, ⟨_, 0, 0, _, rfl, rfl, sHM, ⟨_, ckM⟩, eM, fun t h => by omega, fun t h => by omega, runs_zero hpl⟩, ?_⟩
      rintro m σ H5 ⟨T, run, c5, rfl, rfl, s5, ⟨f, ck5⟩, eM5, nm, few, rn⟩
      obtain ⟨⟨dx5, mv5, hc5, hm5⟩, hL5, hj5, ln5⟩ := id ck5
      have nT : NoAttr K D.Clock.C "tick" := D.Clock.nf _ (by simp)
      have hmv5 := hmv.same s5
      have len5 : (vInts (ends js p T)).length = (ends js p T).length := List.length_map _
      -- the loop is over
      have over : (mn ≤ (ends js p T).length ∨ miss js T (lefts js T) ≠ none) → ∀ c5 run, (tRet (tCB (fun xs H Q => ∃ p ys, xs = [.ref p] ∧ ((SqL K H p ys ∧ ∀ l, H l = none → Q (.ref l) (upd H l (.tup ys))) ∨ (SqT K H p ys ∧ Q (.ref p) H))) (tCons (tVar 10) tNil))) { nx := fun _ H' => Q V.non H', rt := Q } [some x, some (.int (p : Nat)), some (.int (mn : Nat)), some (.ref a), some mv, c5, some (.int (j1.r : Nat)), some (.int (j1.p : Nat)), some (.int (j1.o : Nat)), some (.ref c), some (.ref M), some (.int (run : Nat))] H5 := fun h c5 run =>
        ⟨.ref M, rfl, M, _, rfl, .inl ⟨sqL eM5, fun l nl => q l _ _ (s12.trans (s5.trans (same_upd nl))) upd_same ⟨T, nm, few, h, rfl⟩⟩⟩
      refine ⟨.ref M, rfl, .ref M, _, rfl, .inl ⟨_, sqL eM5, len5.symm⟩, _, rfl, _, _, rfl, rfl, _, rfl, ?_⟩
      by_cases hlen : (ends js p T).length < mn
      rotate_left
      · exact iteFq (decide_eq_false (by omega)) (iteF (over (.inl (by omega)) _ _))
      refine iteTq (decide_eq_true (by omega)) ⟨_, rfl, rfl, _, rfl, ?_⟩
      -- one tick
      cases r with
      | none =>
        obtain rfl : mv = .non := hmv
        refine iteTq (decide_eq_true rfl) (iteT ?_)
        have hms := hfm T
        have hB : T < bnd j1 mn none := by
          rcases Nat.lt_or_ge T (j1.p * (mn + 1)) with z | z
          · exact z
          · have := ends_many hj1 ok1 nm z; omega
        refine ⟨fun σ' H' => ∃ m', m' < bnd j1 mn none - T ∧ ∃ T run c5, m' = bnd j1 mn none - T ∧ σ' = [some x, some (.int (p : Nat)), some (.int (mn : Nat)), some (.ref a), some .non, c5, some (.int (j1.r : Nat)), some (.int (j1.p : Nat)), some (.int (j1.o : Nat)), some (.ref c), some (.ref M), some (.int (run : Nat))] ∧ Same H2 H' ∧ (∃ f, Ck D.Clock.C H' c L a js T (lefts js T) f) ∧ H' M = some (.lst (vInts (ends js p T))) ∧ NoM js T ∧ (∀ t, t < T → (ends js p t).length < mn) ∧ Runs js p T run, fun _ _ h => h, ?_⟩
        have few1 : ∀ t, t < T + 1 → (ends js p t).length < mn := fun t ht => by
          by_cases e : t = T
          · rw [e]; exact hlen
          · exact few t (by omega)
        obtain ⟨rn1, rn2⟩ := runs_next hj1 ok1.r1 hms rn
        refine ⟨_, rfl, c, dx5, _, rfl, hc5, cf_no _ _ _ _ (by decide +kernel) (by decide +kernel) (by decide +kernel) (by decide +kernel), c, L, a, js, T, _, _, rfl, ck5, hok, by omega, fun H6 k6 ck6 => ⟨_, rfl, rfl, _, rfl, ?_⟩⟩
        have s6 : Same H2 H6 := same_k2 s5 k6 nc nL0
        have eM6 := k6 _ _ nMc nML eM5
        obtain ⟨⟨dx6, mv6, hc6, hm6⟩, hL6, hj6, ln6⟩ := id ck6
        by_cases e : whoR js T = some p
        · obtain ⟨ra, rb⟩ := rn1 e
          refine iteTq (whoV_eq.trans (decide_eq_true e)) ⟨_, rfl, _, 1, rfl, rfl, _, rfl, _, rfl, rfl, _, rfl, ?_⟩
          by_cases er : run + 1 = j1.r
          · obtain ⟨e1, e2⟩ := ra er
            refine iteTq (decide_eq_true (by rw [← er]; rfl)) ⟨.ref M, rfl, .inl ⟨rfl, _, sqL eM6⟩, _, rfl, c, D.Clock.C, dx6, _, _, rfl, hc6, D.Clock.cl, nT, cf_tick _ _ _ _, _, rfl, _, _, rfl, rfl, .ref M, rfl, .ref M, _, rfl, .inl ⟨_, sqL eM6, len5.symm⟩, _, rfl, _, _, rfl, rfl, ⟨by omega, by omega⟩, _, _, rfl, rfl, M, _, _, rfl, rfl, eM6, by rw [len5, sizeLine_eq]; omega, ?_⟩
            refine ⟨_, by omega, T + 1, 0, _, rfl, rfl, fun b o hb => by rw [upd_ne (ne_of_none hb nMH)]; exact s6 _ _ hb, ⟨_, ck6.but (fun b o hb e => by rw [upd_ne hb]; exact e) nMc.symm nML.symm (fun xs z => by rw [eM6] at z; cases z)⟩, ?_, nm.succ hms, few1, e2⟩
            rw [upd_same, e1]
            unfold vInts
            rw [List.map_append]
            rfl
          · obtain ⟨e1, e2⟩ := rb er
            refine iteFq (decide_eq_false (fun z => er (by injection z with z; have z : ((run : Nat) : Int) + 1 = (j1.r : Nat) := z; omega))) ?_
            exact ⟨_, by omega, T + 1, run + 1, _, rfl, rfl, s6, ⟨_, ck6⟩, by rw [e1]; exact eM6, nm.succ hms, few1, e2⟩
        · obtain ⟨e1, e2⟩ := rn2 e
          refine iteFq (whoV_eq.trans (decide_eq_false e)) ?_
          exact ⟨_, by omega, T + 1, run, _, rfl, rfl, s6, ⟨_, ck6⟩, by rw [e1]; exact eM6, nm.succ hms, few1, e2⟩
      | some r =>
        obtain ⟨i, m⟩ := r
        obtain ⟨W, rfl, eW⟩ := hmv5
        refine iteFq (decide_eq_false (by intro z; cases z)) ⟨_, rfl, c, D.Clock.C, dx5, _, _, rfl, hc5, D.Clock.cl, nT, cf_tick _ _ _ _, _, rfl, W, _, 1, _, rfl, rfl, sqT eW, atI_nat (j := 1) rfl, _, _, rfl, rfl, _, rfl, ?_⟩
        have hTm : T ≤ m := by
          rcases Nat.lt_or_ge m T with z | z
          · have := nm m z; rw [hfm.1] at this; cases this
          · exact z
        by_cases hT : T < m
        · refine iteTq (decide_eq_true (by omega)) ?_
          have hms := hfm.2 T hT
          have hB : T < bnd j1 mn (some (i, m)) := hT
          refine ⟨fun σ' H' => ∃ m', m' < bnd j1 mn (some (i, m)) - T ∧ ∃ T run c5, m' = bnd j1 mn (some (i, m)) - T ∧ σ' = [some x, some (.int (p : Nat)), some (.int (mn : Nat)), some (.ref a), some (.ref W), c5, some (.int (j1.r : Nat)), some (.int (j1.p : Nat)), some (.int (j1.o : Nat)), some (.ref c), some (.ref M), some (.int (run : Nat))] ∧ Same H2 H' ∧ (∃ f, Ck D.Clock.C H' c L a js T (lefts js T) f) ∧ H' M = some (.lst (vInts (ends js p T))) ∧ NoM js T ∧ (∀ t, t < T → (ends js p t).length < mn) ∧ Runs js p T run, fun _ _ h => h, ?_⟩
          have few1 : ∀ t, t < T + 1 → (ends js p t).length < mn := fun t ht => by
            by_cases e : t = T
            · rw [e]; exact hlen
            · exact few t (by omega)
          obtain ⟨rn1, rn2⟩ := runs_next hj1 ok1.r1 hms rn
          refine ⟨_, rfl, c, dx5, _, rfl, hc5, cf_no _ _ _ _ (by decide +kernel) (by decide +kernel) (by decide +kernel) (by decide +kernel), c, L, a, js, T, _, _, rfl, ck5, hok, by omega, fun H6 k6 ck6 => ⟨_, rfl, rfl, _, rfl, ?_⟩⟩
          have s6 : Same H2 H6 := same_k2 s5 k6 nc nL0
          have eM6 := k6 _ _ nMc nML eM5
          obtain ⟨⟨dx6, mv6, hc6, hm6⟩, hL6, hj6, ln6⟩ := id ck6
          by_cases e : whoR js T = some p
          · obtain ⟨ra, rb⟩ := rn1 e
            refine iteTq (whoV_eq.trans (decide_eq_true e)) ⟨_, rfl, _, 1, rfl, rfl, _, rfl, _, rfl, rfl, _, rfl, ?_⟩
            by_cases er : run + 1 = j1.r
            · obtain ⟨e1, e2⟩ := ra er
              refine iteTq (decide_eq_true (by rw [← er]; rfl)) ⟨.ref M, rfl, .inl ⟨rfl, _, sqL eM6⟩, _, rfl, c, D.Clock.C, dx6, _, _, rfl, hc6, D.Clock.cl, nT, cf_tick _ _ _ _, _, rfl, _, _, rfl, rfl, .ref M, rfl, .ref M, _, rfl, .inl ⟨_, sqL eM6, len5.symm⟩, _, rfl, _, _, rfl, rfl, ⟨by omega, by omega⟩, _, _, rfl, rfl, M, _, _, rfl, rfl, eM6, by rw [len5, sizeLine_eq]; omega, ?_⟩
              refine ⟨_, by omega, T + 1, 0, _, rfl, rfl, fun b o hb => by rw [upd_ne (ne_of_none hb nMH)]; exact s6 _ _ hb, ⟨_, ck6.but (fun b o hb e => by rw [upd_ne hb]; exact e) nMc.symm nML.symm (fun xs z => by rw [eM6] at z; cases z)⟩, ?_, nm.succ hms, few1, e2⟩
              rw [upd_same, e1]
              unfold vInts
              rw [List.map_append]
              rfl
            · obtain ⟨e1, e2⟩ := rb er
              refine iteFq (decide_eq_false (fun z => er (by injection z with z; have z : ((run : Nat) : Int) + 1 = (j1.r : Nat) := z; omega))) ?_
              exact ⟨_, by omega, T + 1, run + 1, _, rfl, rfl, s6, ⟨_, ck6⟩, by rw [e1]; exact eM6, nm.succ hms, few1, e2⟩
          · obtain ⟨e1, e2⟩ := rn2 e
            refine iteFq (whoV_eq.trans (decide_eq_false e)) ?_
            exact ⟨_, by omega, T + 1, run, _, rfl, rfl, s6, ⟨_, ck6⟩, by rw [e1]; exact eM6, nm.succ hms, few1, e2⟩
        · refine iteFq (decide_eq_false (by omega)) ?_
          refine over (.inr ?_) _ _
          rw [show T = m by omega, hfm.1]
          exact fun z => by cases z
end
end K7

set_option Elab.async false
set_option linter.all false
set_option maxRecDepth 100000
set_option maxHeartbeats 4000000
namespace K7
open PySem PySem.Spec PyProof.Rows L2 GX NdefX
def spLNums (K : PySem.W.Frag) : Sp := fun vs H Q _ => ∃ (a : Addr) (ns : List Int), vs = [.ref a] ∧ SqL K H a (ns.map V.int) ∧ ns.length ≤ 63 ∧
  ∀ D H' l, Same H H' → H D = none → H' D = some (.lst (nts l)) → l.length ≤ 4000 → Q (.ref D) H'
section
variable {P : Program} {w : World} {K : PySem.W.Frag} {mg : Str → Option Value} {base : Heap}
theorem ok_lnums {f : Addr} {fd : FuncData} {k : Nat} (F : Fun K "_law_numbers" "_law_numbers" s__law_numbers f fd) (B : Bl mg) : FnOk P w K mg base CX0 (k + 1) f fd ["script"] (spLNums K) := by
  refine F.ok sc__law_numbers (fun vs H Q E h => ?_) (fun cdv A outer s H vs Q E hr h => ?_)
  · obtain ⟨a, ns, rfl, _⟩ := h
    rfl
  · obtain ⟨a, ns, rfl, hq, hl, q⟩ := h
    refine ⟨_, pss_cons (ps_set (i := 1) sc__law_numbers.nd rfl (.inl rfl) (pe_lst pa_nil))
      (pss_cons (ps_for PassesOwn.never rfl (pi_range1 (by rfl) B.range (pa_cons (pe_callB (call_min2 rfl) (by rfl) B.min (by decide +kernel) (pa_cons (pe_callB call_len (by rfl) B.len PySem.boot_len (pa_cons (pv 0) pa_nil)) (pa_cons pe_int pa_nil))) pa_nil)) (pg_name (i := 2) sc__law_numbers.nd rfl (.inl rfl))
        (pss_cons (ps_set (i := 3) sc__law_numbers.nd rfl (.inl rfl) (pe_callTy call_int1 (by rfl) B.int (by decide +kernel) (pa_cons (pe_ix (r := rIxL K) ix_list (pv 0) (pv 2) (fun _ _ => rfl)) pa_nil)))
        (pss_cons (ps_set (i := 4) sc__law_numbers.nd rfl (.inl rfl) pe_int)
        (pss_cons (ps_if (pt_cmpR op_lt (pv 3) pe_int (nomark _)) (pss_cons (ps_set (i := 3) sc__law_numbers.nd rfl (.inl rfl) (pe_op op_sub pe_int (pv 3))) (pss_one (ps_set (i := 4) sc__law_numbers.nd rfl (.inl rfl) pe_int))) pss_nil)
        (pss_one (ps_if (pt_cmpR op_ge (pv 3) (pe_op op_pow pe_int pe_int) (nomark _))
          (pss_one (ps_for PassesOwn.never rfl (pi_range1 (by rfl) B.range (pa_cons pe_int pa_nil)) (pg_name (i := 5) sc__law_numbers.nd rfl (.inl rfl))
            (pss_one (ps_if (pt_cmpR op_gt (pv 3) pe_int (nomark _))
              (pss_cons (ps_expr (pe_bm PySem.F.plainAttrs_list PySem.F.slot_list_append PySem.F.type_list_append mt_append (pv 1) (pa_cons (pe_op op_modN (pe_callTy call_int1 (by rfl) B.int (by decide +kernel) (pa_cons (pv 3) pa_nil)) pe_int) pa_nil)))
              (pss_one (ps_set (i := 3) sc__law_numbers.nd rfl (.inl rfl) (pe_op op_fdivN (pv 3) pe_int)))) pss_nil))))
          (pss_cons (ps_set (i := 6) sc__law_numbers.nd rfl (.inl rfl) (pe_op op_modN (pe_callTy call_int1 (by rfl) B.int (by decide +kernel) (pa_cons (pe_op op_add (pe_op op_add (pe_op op_add (pe_mul (pv 3) pe_int) (pe_mul (pv 2) pe_int)) (pe_mul (pv 4) pe_int)) pe_int) pa_nil)) pe_int))
          (pss_one (ps_for PassesOwn.never rfl (pi_range1 (by rfl) B.range (pa_cons pe_int pa_nil)) (pg_name (i := 5) sc__law_numbers.nd rfl (.inl rfl))
            (pss_cons (ps_set (i := 6) sc__law_numbers.nd rfl (.inl rfl) (pe_op op_modN (pe_callTy call_int1 (by rfl) B.int (by decide +kernel) (pa_cons (pe_op op_add (pe_op op_add (pe_mul (pv 6) pe_int) (pe_mul (pe_callTy call_int1 (by rfl) B.int (by decide +kernel) (pa_cons (pe_op op_fdivN (pv 6) pe_int) pa_nil)) (pv 5))) pe_int) pa_nil)) pe_int))
            (pss_one (ps_expr (pe_bm PySem.F.plainAttrs_list PySem.F.slot_list_append PySem.F.type_list_append mt_append (pv 1) (pa_cons (pe_op op_modN (pe_callTy call_int1 (by rfl) B.int (by decide +kernel) (pa_cons (pe_op op_fdivN (pv 6) pe_int) pa_nil)) pe_int) pa_nil))))))))))))))
      (pss_cons (ps_expr (pe_bm0 PySem.F.plainAttrs_list PySem.F.slot_list_reverse PySem.F.type_list_reverse mt_reverse (pv 1)))
      (pss_one (ps_ret (pv 1))))), ?_⟩
    refine ⟨Nat.zero_le _, fun D nD => ?_⟩
    refine ⟨.ref a, rfl, .ref a, ns.length, rfl, .inl ⟨_, Same.seq (same_upd nD) hq, by rw [List.length_map]⟩, (ns.length : Int), 63, rfl, ?_⟩
    rw [if_neg (by omega)]
    refine ⟨(ns.length : Int), rfl, by omega, by omega, ?_⟩
    refine for_range (D := { nx := _, rt := Q }) (fun i σ H' => (∃ c2 c3 c4 c5 c6, σ = [some (.ref a), some (.ref D), c2, c3, c4, c5, c6]) ∧ Same H H' ∧ ∃ l, H' D = some (.lst (nts l)) ∧ l.length ≤ 45 * i) ?_ ?_ ?_
    · exact ⟨⟨_, _, _, _, _, rfl⟩, same_upd nD, [], upd_same, Nat.le_refl _⟩
    · rintro i σ H2 hi ⟨⟨c2, c3, c4, c5, c6, rfl⟩, s2, l, e2, hl2⟩
      have hi : i < ns.length := by
        have : i < ((ns.length : Int)).toNat := hi
        omega
      have ei : (0 : Int) + i = i := Int.zero_add _
      refine ⟨.ref a, rfl, _, rfl, a, _, _, .int ns[i], rfl, rfl, Same.seq s2 hq, by rw [ei]; refine atI_nat ?_; rw [List.getElem?_map, List.getElem?_eq_getElem hi]; rfl, .inl ⟨ns[i], rfl, ?_⟩⟩
      refine ⟨_, rfl, ns[i], 0, rfl, rfl, _, rfl, ?_⟩
      generalize ns[i] = n
      by_cases hneg : n < 0
      · rw [decide_eq_true hneg]
        refine iteT ⟨.int n, rfl, 0, n, rfl, rfl, ?_⟩
        have hc : (0 : Int) ≤ 0 - n := by omega
        refine ⟨.int (0 - n), rfl, 10, 18, rfl, rfl, ⟨by decide, by decide, by decide⟩, (0 - n), _, rfl, rfl, _, rfl, ?_⟩
        by_cases hbig : (10 : Int) ^ (18 : Int).toNat ≤ (0 - n)
        · rw [decide_eq_true hbig]
          refine iteT ⟨45, rfl, by decide, by decide, ?_⟩
          refine for_range (D := { nx := _, rt := Q }) (fun j σ H' => (∃ c' c5, σ = [some (.ref a), some (.ref D), some (.int (0 + (i : Int))), some (.int c'), some (.int 1), c5, c6] ∧ 0 ≤ c') ∧ Same H H' ∧ ∃ l, H' D = some (.lst (nts l)) ∧ l.length ≤ 45 * i + j) ?_ ?_ ?_
          · exact ⟨⟨_, _, rfl, hc⟩, s2, l, e2, hl2⟩
          · rintro j σ H3 hj ⟨⟨c', c5, rfl, hc'⟩, s3, l, e3, hl3⟩
            have hj : j < 45 := hj
            refine ⟨.int c', rfl, c', 0, rfl, rfl, _, rfl, ?_⟩
            by_cases hpos : (0 : Int) < c'
            · rw [decide_eq_true hpos]
              refine iteT ⟨.ref D, rfl, .inl ⟨rfl, _, sqL e3⟩, .int c', rfl, .inl ⟨c', rfl, c', 60, rfl, rfl, (by show (60 : Int) ≠ 0; decide), D, _, _, rfl, rfl, e3, by rw [nts_len, sizeLine_eq]; omega, .int c', rfl, c', 60, rfl, rfl, ⟨by decide, by decide⟩, ?_⟩⟩
              have hm := fmod_nn (a := c') (b := 60) hc' (by decide)
              refine ⟨⟨_, _, rfl, (fdiv_nn hc' (by decide)).1⟩, fun b o e => ?_, l ++ [(c'.fmod 60).toNat], ?_, ?_⟩
              · rw [upd_ne (ne_of_none e nD)]
                exact s3 _ _ e
              · rw [upd_same, nts_snoc _ hm.1]
              · rw [List.length_append, List.length_singleton]
                omega
            · rw [decide_eq_false hpos]
              exact iteF ⟨⟨_, _, rfl, hc'⟩, s3, l, e3, by omega⟩
          · rintro σ H3 ⟨⟨c', c5, rfl, hc'⟩, s3, l, e3, hl3⟩
            have hl3 : l.length ≤ 45 * i + 45 := hl3
            exact ⟨⟨_, _, _, _, _, rfl⟩, s3, l, e3, by omega⟩
        · rw [decide_eq_false hbig]
          have hbig : ¬ (1000000000000000000 : Int) ≤ (0 - n) := hbig
          refine iteF ⟨.int (0 - n), rfl, (0 - n), 16807, rfl, rfl, ⟨by omega, by omega⟩, _, rfl, _, 7919, rfl, rfl, ⟨by omega, by omega⟩, _, _, rfl, rfl, .int 1, rfl, 1, 104729, rfl, rfl, ⟨by omega, by omega⟩, _, _, rfl, rfl, _, _, rfl, rfl, .inl ⟨_, rfl, _, 2147483629, rfl, rfl, (by show (2147483629 : Int) ≠ 0; decide), 7, rfl, by decide, by decide, ?_⟩⟩
          have hs := fmod_nn (a := (0 - n) * 16807 + (0 + (i : Int)) * 7919 + 1 * 104729 + 11) (b := 2147483629) (by omega) (by decide)
          refine for_range (D := { nx := _, rt := Q }) (fun j σ H' => (∃ c5 sd, σ = [some (.ref a), some (.ref D), some (.int (0 + (i : Int))), some (.int (0 - n)), some (.int 1), c5, some (.int sd)] ∧ 0 ≤ sd ∧ sd < 2147483629) ∧ Same H H' ∧ ∃ l, H' D = some (.lst (nts l)) ∧ l.length ≤ 45 * i + j) ?_ ?_ ?_
          · exact ⟨⟨_, _, rfl, hs⟩, s2, l, e2, hl2⟩
          · rintro j σ H3 hj ⟨⟨c5, sd, rfl, h0, h1⟩, s3, l, e3, hl3⟩
            have hj : j < 7 := hj
            have hd := fdiv_nn (a := sd) (b := 1000) h0 (by decide)
            refine ⟨.int sd, rfl, sd, 39373, rfl, rfl, ⟨by omega, by omega⟩, .int sd, rfl, sd, 1000, rfl, rfl, ⟨by decide, by decide⟩, .inl ⟨_, rfl, _, rfl, _, _, rfl, rfl, ⟨by omega, by omega⟩, _, _, rfl, rfl, _, _, rfl, rfl, .inl ⟨_, rfl, _, 2147483629, rfl, rfl, (by show (2147483629 : Int) ≠ 0; decide), ?_⟩⟩⟩
            have hp : 0 ≤ sd.fdiv 1000 * (0 + (j : Int)) := Int.mul_nonneg hd.1 (by omega)
            have hs2 := fmod_nn (a := sd * 39373 + sd.fdiv 1000 * (0 + (j : Int)) + 7919) (b := 2147483629) (by omega) (by decide)
            have hd2 := fdiv_nn (a := (sd * 39373 + sd.fdiv 1000 * (0 + (j : Int)) + 7919).fmod 2147483629) (b := 7) hs2.1 (by decide)
            have hm2 := fmod_nn (a := ((sd * 39373 + sd.fdiv 1000 * (0 + (j : Int)) + 7919).fmod 2147483629).fdiv 7) (b := 55440) hd2.1 (by decide)
            refine ⟨.ref D, rfl, .inl ⟨rfl, _, sqL e3⟩, _, rfl, _, 7, rfl, rfl, ⟨by decide, by decide⟩, .inl ⟨_, rfl, _, 55440, rfl, rfl, (by show (55440 : Int) ≠ 0; decide), D, _, _, rfl, rfl, e3, by rw [nts_len, sizeLine_eq]; omega, ?_⟩⟩
            refine ⟨⟨_, _, rfl, hs2⟩, fun b o e => ?_, l ++ [((((sd * 39373 + sd.fdiv 1000 * (0 + (j : Int)) + 7919).fmod 2147483629).fdiv 7).fmod 55440).toNat], ?_, ?_⟩
            · rw [upd_ne (ne_of_none e nD)]
              exact s3 _ _ e
            · rw [upd_same]
              exact congrArg (fun l => some (HO.lst l)) (nts_snoc _ hm2.1)
            · rw [List.length_append, List.length_singleton]
              omega
          · rintro σ H3 ⟨⟨c5, sd, rfl, h0, h1⟩, s3, l, e3, hl3⟩
            have hl3 : l.length ≤ 45 * i + 7 := hl3
            exact ⟨⟨_, _, _, _, _, rfl⟩, s3, l, e3, by omega⟩
      · rw [decide_eq_false hneg]
        refine iteF ?_
        have hc : (0 : Int) ≤ n := by omega
        refine ⟨.int n, rfl, 10, 18, rfl, rfl, ⟨by decide, by decide, by decide⟩, n, _, rfl, rfl, _, rfl, ?_⟩
        by_cases hbig : (10 : Int) ^ (18 : Int).toNat ≤ n
        · rw [decide_eq_true hbig]
          refine iteT ⟨45, rfl, by decide, by decide, ?_⟩
          refine for_range (D := { nx := _, rt := Q }) (fun j σ H' => (∃ c' c5, σ = [some (.ref a), some (.ref D), some (.int (0 + (i : Int))), some (.int c'), some (.int 0), c5, c6] ∧ 0 ≤ c') ∧ Same H H' ∧ ∃ l, H' D = some (.lst (nts l)) ∧ l.length ≤ 45 * i + j) ?_ ?_ ?_
          · exact ⟨⟨_, _, rfl, hc⟩, s2, l, e2, hl2⟩
          · rintro j σ H3 hj ⟨⟨c', c5, rfl, hc'⟩, s3, l, e3, hl3⟩
            have hj : j < 45 := hj
            refine ⟨.int c', rfl, c', 0, rfl, rfl, _, rfl, ?_⟩
            by_cases hpos : (0 : Int) < c'
            · rw [decide_eq_true hpos]
              refine iteT ⟨.ref D, rfl, .inl ⟨rfl, _, sqL e3⟩, .int c', rfl, .inl ⟨c', rfl, c', 60, rfl, rfl, (by show (60 : Int) ≠ 0; decide), D, _, _, rfl, rfl, e3, by rw [nts_len, sizeLine_eq]; omega, .int c', rfl, c', 60, rfl, rfl, ⟨by decide, by decide⟩, ?_⟩⟩
              have hm := fmod_nn (a := c') (b := 60) hc' (by decide)
              refine ⟨⟨_, _, rfl, (fdiv_nn hc' (by decide)).1⟩, fun b o e => ?_, l ++ [(c'.fmod 60).toNat], ?_, ?_⟩
              · rw [upd_ne (ne_of_none e nD)]
                exact s3 _ _ e
              · rw [upd_same, nts_snoc _ hm.1]
              · rw [List.length_append, List.length_singleton]
                omega
            · rw [decide_eq_false hpos]
              exact iteF ⟨⟨_, _, rfl, hc'⟩, s3, l, e3, by omega⟩
          · rintro σ H3 ⟨⟨c', c5, rfl, hc'⟩, s3, l, e3, hl3⟩
            have hl3 : l.length ≤ 45 * i + 45 := hl3
            exact ⟨⟨_, _, _, _, _, rfl⟩, s3, l, e3, by omega⟩
        · rw [decide_eq_false hbig]
          have hbig : ¬ (1000000000000000000 : Int) ≤ n := hbig
          refine iteF ⟨.int n, rfl, n, 16807, rfl, rfl, ⟨by omega, by omega⟩, _, rfl, _, 7919, rfl, rfl, ⟨by omega, by omega⟩, _, _, rfl, rfl, .int 0, rfl, 0, 104729, rfl, rfl, ⟨by omega, by omega⟩, _, _, rfl, rfl, _, _, rfl, rfl, .inl ⟨_, rfl, _, 2147483629, rfl, rfl, (by show (2147483629 : Int) ≠ 0; decide), 7, rfl, by decide, by decide, ?_⟩⟩
          have hs := fmod_nn (a := n * 16807 + (0 + (i : Int)) * 7919 + 0 * 104729 + 11) (b := 2147483629) (by omega) (by decide)
          refine for_range (D := { nx := _, rt := Q }) (fun j σ H' => (∃ c5 sd, σ = [some (.ref a), some (.ref D), some (.int (0 + (i : Int))), some (.int n), some (.int 0), c5, some (.int sd)] ∧ 0 ≤ sd ∧ sd < 2147483629) ∧ Same H H' ∧ ∃ l, H' D = some (.lst (nts l)) ∧ l.length ≤ 45 * i + j) ?_ ?_ ?_
          · exact ⟨⟨_, _, rfl, hs⟩, s2, l, e2, hl2⟩
          · rintro j σ H3 hj ⟨⟨c5, sd, rfl, h0, h1⟩, s3, l, e3, hl3⟩
            have hj : j < 7 := hj
            have hd := fdiv_nn (a := sd) (b := 1000) h0 (by decide)
            refine ⟨.int sd, rfl, sd, 39373, rfl, rfl, ⟨by omega, by omega⟩, .int sd, rfl, sd, 1000, rfl, rfl, ⟨by decide, by decide⟩, .inl ⟨_, rfl, _, rfl, _, _, rfl, rfl, ⟨by omega, by omega⟩, _, _, rfl, rfl, _, _, rfl, rfl, .inl ⟨_, rfl, _, 2147483629, rfl, rfl, (by show (2147483629 : Int) ≠ 0; decide), ?_⟩⟩⟩
            have hp : 0 ≤ sd.fdiv 1000 * (0 + (j : Int)) := Int.mul_nonneg hd.1 (by omega)
            have hs2 := fmod_nn (a := sd * 39373 + sd.fdiv 1000 * (0 + (j : Int)) + 7919) (b := 2147483629) (by omega) (by decide)
            have hd2 := fdiv_nn (a := (sd * 39373 + sd.fdiv 1000 * (0 + (j : Int)) + 7919).fmod 2147483629) (b := 7) hs2.1 (by decide)
            have hm2 := fmod_nn (a := ((sd * 39373 + sd.fdiv 1000 * (0 + (j : Int)) + 7919).fmod 2147483629).fdiv 7) (b := 55440) hd2.1 (by decide)
            refine ⟨.ref D, rfl, .inl ⟨rfl, _, sqL e3⟩, _, rfl, _, 7, rfl, rfl, ⟨by decide, by decide⟩, .inl ⟨_, rfl, _, 55440, rfl, rfl, (by show (55440 : Int) ≠ 0; decide), D, _, _, rfl, rfl, e3, by rw [nts_len, sizeLine_eq]; omega, ?_⟩⟩
            refine ⟨⟨_, _, rfl, hs2⟩, fun b o e => ?_, l ++ [((((sd * 39373 + sd.fdiv 1000 * (0 + (j : Int)) + 7919).fmod 2147483629).fdiv 7).fmod 55440).toNat], ?_, ?_⟩
            · rw [upd_ne (ne_of_none e nD)]
              exact s3 _ _ e
            · rw [upd_same]
              exact congrArg (fun l => some (HO.lst l)) (nts_snoc _ hm2.1)
            · rw [List.length_append, List.length_singleton]
              omega
          · rintro σ H3 ⟨⟨c5, sd, rfl, h0, h1⟩, s3, l, e3, hl3⟩
            have hl3 : l.length ≤ 45 * i + 7 := hl3
            exact ⟨⟨_, _, _, _, _, rfl⟩, s3, l, e3, by omega⟩
    · rintro σ H2 ⟨⟨c2, c3, c4, c5, c6, rfl⟩, s2, l, e2, hl2⟩
      have hl2 : l.length ≤ 45 * ((ns.length : Int)).toNat := hl2
      refine ⟨.ref D, rfl, .inl ⟨rfl, _, sqL e2⟩, D, _, rfl, rfl, e2, .ref D, rfl, q D _ l.reverse (fun b o e => ?_) nD ?_ ?_⟩
      · rw [upd_ne (ne_of_none e nD)]
        exact s2 _ _ e
      · rw [upd_same]
        unfold nts
        rw [List.map_reverse]
      · rw [List.length_reverse]
        omega
end
def spDraw : Sp := fun vs H Q _ => ∃ (a : Addr) (m : Nat), vs = [.ref a, .int m] ∧ 1 ≤ m ∧ NumsAt H a ∧ ∀ (H' : Hp) (r : Nat), r < m → SameB a H H' → NumsAt H' a → Q (.int (r : Nat)) H'
def spInt : Sp := fun vs H Q _ => ∃ i : Int, vs = [.int i] ∧ Q (.bl true) H
section
variable {P : Program} {w : World} {K : PySem.W.Frag} {mg : Str → Option Value} {base : Heap}
theorem ok_draw {f : Addr} {fd : FuncData} {k : Nat} (F : Fun K "_law_draw" "_law_draw" s__law_draw f fd) (B : Bl mg) : FnOk P w K mg base CX0 (k + 1) f fd ["numbers", "many"] spDraw := by
  refine F.ok sc__law_draw (fun vs H Q E h => ?_) (fun cdv A outer s H vs Q E hr h => ?_)
  · obtain ⟨a, m, rfl, _⟩ := h
    rfl
  · obtain ⟨a, m, rfl, hm, ⟨l, ea, hl⟩, q⟩ := h
    refine ⟨_, pss_cons (ps_if (pt_cmpR op_eq (pe_callB call_len (by rfl) B.len PySem.boot_len (pa_cons (pv 0) pa_nil)) pe_int (nomark _)) (pss_one (ps_ret pe_int)) pss_nil)
      (pss_one (ps_ret (pe_op op_modN (pe_callTy call_int1 (by rfl) B.int (by decide +kernel) (pa_cons (pe_bm0 PySem.F.plainAttrs_list PySem.F.slot_list_pop PySem.F.type_list_pop mt_pop (pv 0)) pa_nil)) (pv 1)))), ?_⟩
    refine ⟨.ref a, rfl, .ref a, l.length, rfl, .inl ⟨_, sqL ea, (nts_len l).symm⟩, rfl, _, rfl, ?_⟩
    by_cases h0 : l.length = 0
    · rw [decide_eq_true (by rw [h0]; rfl)]
      exact iteT (q H 0 hm SameB.refl ⟨l, ea, hl⟩)
    rw [decide_eq_false (fun e => h0 (by have := V.int.inj e; omega))]
    have hi : l.length - 1 < l.length := by omega
    refine iteF ⟨.ref a, rfl, .inl ⟨rfl, _, sqL ea⟩, a, _, .int (l[l.length - 1]), rfl, rfl, ea, ?_, .inl ⟨_, rfl, .int m, rfl, _, m, rfl, rfl, (by show (m : Int) ≠ 0; omega), ?_⟩⟩
    · rw [nts_len]
      unfold nts
      rw [List.getElem?_map, List.getElem?_eq_getElem hi]
      rfl
    · have hf := fmod_nn (a := ((l[l.length - 1] : Nat) : Int)) (b := m) (by omega) (by omega)
      have z := q (upd H a (.lst (nts l).dropLast)) (((l[l.length - 1] : Nat) : Int).fmod m).toNat (by omega) (fun b o n e => by rw [upd_ne n]; exact e) ⟨l.dropLast, by rw [upd_same]; unfold nts; rw [List.map_dropLast], by rw [List.length_dropLast]; omega⟩
      rw [Int.toNat_of_nonneg hf.1] at z
      exact z
theorem ok_lint {f : Addr} {fd : FuncData} {k : Nat} (F : Fun K "_law_int" "_law_int" s__law_int f fd) (B : Bl mg) : FnOk P w K mg base CX0 (k + 1) f fd ["value"] spInt := by
  refine F.ok sc__law_int (fun vs H Q E h => ?_) (fun cdv A outer s H vs Q E hr h => ?_)
  · obtain ⟨i, rfl, _⟩ := h
    rfl
  · obtain ⟨i, rfl, q⟩ := h
    refine ⟨_, pss_one (ps_ret (pe_and (pe_callB call_isi (by rfl) B.isinstance (by decide +kernel) (pa_cons (pv 0) (pa_cons (pe_bltn (v := .ty "int") (u := .type "int") (by rfl) B.int (by decide +kernel) rfl) pa_nil)))
      (pe_one (pe_not (pe_callB call_isi (by rfl) B.isinstance (by decide +kernel) (pa_cons (pv 0) (pa_cons (pe_bltn (v := .ty "bool") (u := .type "bool") (by rfl) B.bool (by decide +kernel) rfl) pa_nil))))))), ?_⟩
    refine ⟨_, rfl, _, _, .type "int", _, true, rfl, .ty "int", .base (.int i), kit_ty (by decide +kernel), true, rfl, iteT ?_⟩
    exact ⟨_, rfl, _, _, .type "int", _, false, rfl, .ty "bool", .base (.int i), kit_ty (by decide +kernel), _, rfl, q⟩
theorem ok_numsD {k : Nat} (D : Pr P K mg) : FnOk P w K mg base CX0 (k + 1) D._law_numbers.f D._law_numbers.fd ["script"] (spLNums K) := ok_lnums D._law_numbers.F D.B
theorem ok_drawD {k : Nat} (D : Pr P K mg) : FnOk P w K mg base CX0 (k + 1) D._law_draw.f D._law_draw.fd ["numbers", "many"] spDraw := ok_draw D._law_draw.F D.B
theorem ok_intD {k : Nat} (D : Pr P K mg) : FnOk P w K mg base CX0 (k + 1) D._law_int.f D._law_int.fd ["value"] spInt := ok_lint D._law_int.F D.B
end
end K7

set_option Elab.async false
set_option linter.all false
set_option maxRecDepth 100000
set_option maxHeartbeats 4000000
namespace K7
open PySem PySem.Spec PyProof.Rows L2 GX NdefX
/-! ### _law_jobs -/
def JobsL (H : Hp) (D : Addr) (js : List Job) : Prop := ∃ ts, H D = some (.lst ts) ∧ TupsT H ts (js.map jv)
theorem JobsL.b {a : Addr} {H H' : Hp} {D : Addr} {js : List Job} (n : NumsAt H a) (hd : D ≠ a) (s : SameB a H H') (h : JobsL H D js) : JobsL H' D js := by
  obtain ⟨ts, e, p⟩ := h
  exact ⟨ts, s _ _ hd e, tupsB n s p⟩
theorem JobsL.same {H H' : Hp} {D : Addr} {js : List Job} (s : Same H H') (h : JobsL H D js) : JobsL H' D js := by
  obtain ⟨ts, e, p⟩ := h
  exact ⟨ts, s _ _ e, p.same s⟩
theorem JobsL.app {H : Hp} {D T : Addr} {ts : List V} {js : List Job} {j : Job} (e : H D = some (.lst ts)) (p : TupsT H ts (js.map jv)) (h : H T = some (.tup (jv j))) : JobsL (upd H D (.lst (ts ++ [.ref T]))) D (js ++ [j]) := by
  refine ⟨ts ++ [.ref T], upd_same, ?_⟩
  rw [List.map_append]
  exact paired_app (tups_upd e p) (.cons (tup_upd e ⟨T, rfl, h⟩) .nil)
def OkOne (g : Bool) (j : Job) : Prop := JOk j ∧ (if g = true then j.p ∣ 24 else j.p ∣ 60 ∧ j.r ≤ 4)
def OkSet (js : List Job) : Prop := 1 ≤ js.length ∧ js.length ≤ 5 ∧ ∃ g, ∀ j ∈ js, OkOne g j
theorem OkSet.ok {js : List Job} (h : OkSet js) : ∀ j ∈ js, JOk j := fun j hj => let ⟨g, q⟩ := h.2.2; (q j hj).1
theorem rsumK {js : List Job} {m : Nat} (h : ∀ j ∈ js, j.r ≤ m) : (js.map (·.r)).sum ≤ m * js.length := by
  induction js with
  | nil => exact Nat.le_refl _
  | cons j js ih =>
    have a := ih fun k hk => h k (List.mem_cons_of_mem _ hk)
    have b := h j List.mem_cons_self
    rw [List.map_cons, List.sum_cons, List.length_cons, Nat.mul_succ]
    omega
theorem OkSet.com {js : List Job} (h : OkSet js) : ∃ c0, 1 ≤ c0 ∧ c0 ≤ 60 ∧ (∀ j ∈ js, j.p ∣ c0) ∧ c0 * ((js.map (·.r)).sum + 1) < 1500 := by
  obtain ⟨l1, l5, g, q⟩ := h
  cases g with
  | true =>
    refine ⟨24, by decide, by decide, fun j hj => (q j hj).2, ?_⟩
    have := rsumK (m := 12) fun j hj => (q j hj).1.r2
    omega
  | false =>
    refine ⟨60, by decide, by decide, fun j hj => (q j hj).2.1, ?_⟩
    have := rsumK (m := 4) fun j hj => (q j hj).2.2
    omega
def spLJobs : Sp := fun vs H Q _ => ∃ a : Addr, vs = [.ref a] ∧ NumsAt H a ∧ ∀ T H' js, SameB a H H' → NumsAt H' a → JobsT H' T js → OkSet js → Q (.ref T) H'
section
variable {P : Program} {w : World} {K : PySem.W.Frag} {mg : Str → Option Value} {base : Heap}
theorem ok_ljobs {k : Nat} (D : Pr P K mg) : FnOk P w K mg base CX0 (k + 2) D._law_jobs.f D._law_jobs.fd ["numbers"] spLJobs := by
  have G__law_draw : FnOk P w K mg base CX0 (k + 1) D._law_draw.f D._law_draw.fd ["numbers", "many"] spDraw := ok_drawD D
  refine D._law_jobs.F.ok sc__law_jobs (fun vs H Q E h => ?_) (fun cdv A outer s H vs Q E hr h => ?_)
  · obtain ⟨a, rfl, _⟩ := h
    rfl
  · obtain ⟨a, rfl, hn, q⟩ := h
    refine ⟨_, (pss_cons (ps_set (i := 1) sc__law_jobs.nd rfl (.inl rfl) (pe_cmpR op_eq (pe_call G__law_draw hr (by rfl) D._law_draw.g D._law_draw.F.kp D._law_draw.b .nil pass0 (pa_cons (pv 0) (pa_cons pe_int pa_nil))) pe_int (nomark _)))
      (pss_cons (ps_set (i := 2) sc__law_jobs.nd rfl (.inl rfl) (pe_lst pa_nil))
      (pss_cons (ps_for PassesOwn.never rfl (pi_range1 (by rfl) D.B.range (pa_cons (pe_op (r := rAddN) op_AddN pe_int (pe_call G__law_draw hr (by rfl) D._law_draw.g D._law_draw.F.kp D._law_draw.b .nil pass0 (pa_cons (pv 0) (pa_cons pe_int pa_nil)))) pa_nil)) (pg_name (i := 3) sc__law_jobs.nd rfl (.inl rfl)) (pss_cons (ps_if (pt_val (pv 1)) (pss_cons (ps_set (i := 4) sc__law_jobs.nd rfl (.inl rfl) (pe_ix (r := rIxL K) ix_list (pe_lst (pa_cons pe_int (pa_cons pe_int (pa_cons pe_int pa_nil)))) (pe_call G__law_draw hr (by rfl) D._law_draw.g D._law_draw.F.kp D._law_draw.b .nil pass0 (pa_cons (pv 0) (pa_cons pe_int pa_nil))) (fun _ _ => rfl))) (pss_one (ps_set (i := 5) sc__law_jobs.nd rfl (.inl rfl) (pe_op (r := rAddN) op_AddN pe_int (pe_call G__law_draw hr (by rfl) D._law_draw.g D._law_draw.F.kp D._law_draw.b .nil pass0 (pa_cons (pv 0) (pa_cons pe_int pa_nil))))))) (pss_cons (ps_set (i := 4) sc__law_jobs.nd rfl (.inl rfl) (pe_op (r := rAddN) op_AddN pe_int (pe_call G__law_draw hr (by rfl) D._law_draw.g D._law_draw.F.kp D._law_draw.b .nil pass0 (pa_cons (pv 0) (pa_cons pe_int pa_nil))))) (pss_one (ps_set (i := 5) sc__law_jobs.nd rfl (.inl rfl) (pe_op (r := rAddN) op_AddN pe_int (pe_op (r := rModN) op_ModN (pe_callTy call_int1 (by rfl) D.B.int (by decide +kernel) (pa_cons (pe_call G__law_draw hr (by rfl) D._law_draw.g D._law_draw.F.kp D._law_draw.b .nil pass0 (pa_cons (pv 0) (pa_cons pe_int pa_nil))) pa_nil)) (pe_ix (r := rIxL K) ix_list (pe_lst (pa_cons pe_int (pa_cons pe_int (pa_cons pe_int (pa_cons pe_int (pa_cons pe_int (pa_cons pe_int pa_nil))))))) (pe_op (r := rSubN) op_SubN (pv 4) pe_int) (fun _ _ => rfl)))))))) (pss_one (ps_expr (pe_bm PySem.F.plainAttrs_list PySem.F.slot_list_append PySem.F.type_list_append mt_append (pv 2) (pa_cons (pe_tup (pa_cons (pv 5) (pa_cons (pv 4) (pa_cons (pe_call G__law_draw hr (by rfl) D._law_draw.g D._law_draw.F.kp D._law_draw.b .nil pass0 (pa_cons (pv 0) (pa_cons (pv 4) pa_nil))) pa_nil)))) pa_nil))))))
      (pss_one (ps_ret (pe_callTy call_tuple_of (by rfl) D.B.tuple (by decide +kernel) (pa_cons (pv 2) pa_nil))))))), ?_⟩
    refine ⟨.ref a, rfl, a, 3, rfl, by decide, hn, fun H0 r0 hr0 s0 n0 => ⟨rfl, ?_⟩⟩
    generalize decide (V.int (r0 : Nat) = V.int 2) = g
    refine ⟨by decide, fun R nR => ?_⟩
    have hRa := nums_ne n0 nR
    have n1 := n0.same (same_upd nR (o := .lst []))
    refine ⟨.ref a, rfl, a, 5, rfl, by decide, n1, fun H1 m hm5 s1 n1 => ⟨1, m, rfl, rfl, ((1 + m : Nat) : Int), rfl, by omega, by omega, ?_⟩⟩
    have s01 := s0.trans ((sameB_of (a := a) (same_upd nR (o := .lst []))).trans s1)
    refine forRg (D := { nx := _, rt := Q }) (n := 1 + m) (fun i σ H' => (∃ c3 c4 c5, σ = [some (.ref a), some (.bl g), some (.ref R), c3, c4, c5]) ∧ SameB a H H' ∧ NumsAt H' a ∧ ∃ js, JobsL H' R js ∧ js.length = i ∧ ∀ j ∈ js, OkOne g j) ?_ ?_ ?_
    · exact ⟨⟨_, _, _, rfl⟩, s01, n1, [], ⟨[], s1 _ _ hRa upd_same, .nil⟩, rfl, fun j h => absurd h (by simp)⟩
    · rintro i σ H2 hi ⟨⟨c3, c4, c5, rfl⟩, s2, n2, js, jl, hlen, hok⟩
      -- the rest of the turn, with the period and the rungs
      have fin : ∀ (H3 : Hp) (p r : Nat), SameB a H2 H3 → NumsAt H3 a → 1 ≤ p → p ≤ 24 → 1 ≤ r → r ≤ 12 → (if g = true then p ∣ 24 else p ∣ 60 ∧ r ≤ 4) → ∀ (H4 : Hp) (o : Nat), o < p → SameB a H3 H4 → NumsAt H4 a → ∀ T, H4 T = none →
          ∃ ts, H4 R = some (.lst ts) ∧ ts.length ≤ 1000 ∧ SameB a H (upd (upd H4 T (.tup [.int (r : Nat), .int (p : Nat), .int (o : Nat)])) R (.lst (ts ++ [.ref T]))) ∧ NumsAt (upd (upd H4 T (.tup [.int (r : Nat), .int (p : Nat), .int (o : Nat)])) R (.lst (ts ++ [.ref T]))) a ∧
            JobsL (upd (upd H4 T (.tup [.int (r : Nat), .int (p : Nat), .int (o : Nat)])) R (.lst (ts ++ [.ref T]))) R (js ++ [⟨r, p, o⟩]) ∧ (js ++ [(⟨r, p, o⟩ : Job)]).length = i + 1 ∧ (∀ j ∈ js ++ [(⟨r, p, o⟩ : Job)], OkOne g j) ∧ (upd H4 T (.tup [.int (r : Nat), .int (p : Nat), .int (o : Nat)])) R = some (.lst ts) := by
        intro H3 p r s3 n3 hp1 hp2 hr1 hr2 hg H4 o ho s4 n4 T nT
        have sT := same_upd nT (o := .tup [.int (r : Nat), .int (p : Nat), .int (o : Nat)])
        have jl4 := (jl.b n2 hRa s3).b n3 hRa s4
        obtain ⟨ts, e, pt⟩ := jl4.same sT
        have eR : H4 R = some (.lst ts) := by
          obtain ⟨ts', e', _⟩ := jl4
          rw [sT _ _ e'] at e
          rw [e']; exact e
        have lts := jt_len pt
        refine ⟨ts, eR, by omega, fun b o hb h => ?_, nums_upd (n4.same sT) hRa, JobsL.app e pt upd_same, by rw [List.length_append, hlen]; rfl, fun j hj => ?_, e⟩
        · rw [upd_ne (ne_of_none h (none_of_b s0 n0 nR))]
          exact sT _ _ (s4 _ _ hb (s3 _ _ hb (s2 _ _ hb h)))
        · rcases List.mem_append.mp hj with hj | hj
          · exact hok j hj
          · rw [List.mem_singleton.mp hj]
            exact ⟨⟨hr1, hr2, hp1, hp2, ho⟩, hg⟩
      refine ⟨.bl g, rfl, g, rfl, ?_⟩
      cases hg : g with
      | true =>
        refine iteTq rfl ⟨by decide, fun L nL => ⟨.ref a, rfl, a, 3, rfl, by decide, n2.same (same_upd nL), fun H3 v hv s3 n3 => ?_⟩⟩
        refine pick (ms := [24, 12, 8]) (s3 _ _ (nums_ne n2 nL) upd_same) hv fun p hp => ?_
        simp only [List.mem_cons, List.not_mem_nil, or_false] at hp
        have hp1 : 1 ≤ p := by omega
        have hp2 : p ≤ 24 := by omega
        have hd : p ∣ 24 := by rcases hp with rfl | rfl | rfl <;> decide
        have s23 := (sameB_of (a := a) (same_upd nL (o := .lst [.int 24, .int 12, .int 8]))).trans s3
        refine ⟨.ref a, rfl, a, 12, rfl, by decide, n3, fun H4 r hr12 s4 n4 => ⟨1, r, rfl, rfl, ?_⟩⟩
        refine ⟨.ref R, rfl, .inl ⟨rfl, _, sqL (((jl.b n2 hRa (s23.trans s4)).choose_spec.1))⟩, _, rfl, _, rfl, .ref a, rfl, _, rfl, a, p, rfl, hp1, n4, fun H5 o ho s5 n5 => ⟨by show 3 ≤ sizeLine; decide, fun T nT => ?_⟩⟩
        obtain ⟨ts, eR, hl, f1, f2, f3, f4, f5, e⟩ := fin H4 p (1 + r) (s23.trans s4) n4 hp1 hp2 (by omega) (by omega) (by rw [hg, if_pos rfl]; exact hd) H5 o ho s5 n5 T nT
        exact ⟨R, ts, _, rfl, rfl, e, by rw [sizeLine_eq]; omega, ⟨_, _, _, rfl⟩, f1, f2, _, f3, f4, by rw [hg] at f5; exact f5⟩
      | false =>
        refine iteFq rfl ⟨.ref a, rfl, a, 6, rfl, by decide, n2, fun H3 v hv s3 n3 => ⟨1, v, rfl, rfl, ?_⟩⟩
        refine ⟨.ref a, rfl, a, 12, rfl, by decide, n3, fun H4 r hr12 s4 n4 => .inl ⟨_, rfl, ?_⟩⟩
        refine ⟨by decide, fun L nL => ⟨_, rfl, 1 + v, 1, rfl, rfl, by omega, ?_⟩⟩
        rw [show 1 + v - 1 = v by omega]
        refine pick (ms := [1, 1, 2, 2, 3, 4]) upd_same hv fun z hz => ⟨r, z, rfl, rfl, ?_, 1, r % z, rfl, rfl, ?_⟩
        · simp only [List.mem_cons, List.not_mem_nil, or_false] at hz
          omega
        have hz4 : 1 ≤ z ∧ z ≤ 4 := by
          simp only [List.mem_cons, List.not_mem_nil, or_false] at hz
          omega
        have hzr : r % z < 4 := Nat.lt_of_lt_of_le (Nat.mod_lt r (by omega)) hz4.2
        have s24 := (s3.trans s4).trans (sameB_of (a := a) (same_upd nL (o := .lst [.int 1, .int 1, .int 2, .int 2, .int 3, .int 4])))
        have n5' := n4.same (same_upd nL (o := .lst [.int 1, .int 1, .int 2, .int 2, .int 3, .int 4]))
        have hd : (1 + v) ∣ 60 := by
          have : v = 0 ∨ v = 1 ∨ v = 2 ∨ v = 3 ∨ v = 4 ∨ v = 5 := by omega
          rcases this with rfl | rfl | rfl | rfl | rfl | rfl <;> decide
        obtain ⟨p, hpv⟩ : ∃ p, p = 1 + v := ⟨_, rfl⟩
        rw [← hpv] at hd ⊢
        have hp1 : 1 ≤ p := by omega
        have hp2 : p ≤ 24 := by omega
        refine ⟨.ref R, rfl, .inl ⟨rfl, _, sqL (((jl.b n2 hRa s24).choose_spec.1))⟩, _, rfl, _, rfl, .ref a, rfl, _, rfl, a, p, rfl, hp1, n5', fun H5 o ho s5 n5 => ⟨by show 3 ≤ sizeLine; decide, fun T nT => ?_⟩⟩
        obtain ⟨ts, eR, hl, f1, f2, f3, f4, f5, e⟩ := fin _ p (1 + r % z) s24 n5' hp1 hp2 (by omega) (by omega) (by rw [hg, if_neg (by decide)]; exact ⟨hd, by omega⟩) H5 o ho s5 n5 T nT
        exact ⟨R, ts, _, rfl, rfl, e, by rw [sizeLine_eq]; omega, ⟨_, _, _, rfl⟩, f1, f2, _, f3, f4, by rw [hg] at f5; exact f5⟩
    · rintro σ H2 ⟨⟨c3, c4, c5, rfl⟩, s2, n2, js, ⟨ts, e, pt⟩, hlen, hok⟩
      exact ⟨.ref R, rfl, R, ts, rfl, .inl ⟨sqL e, fun l nl => q l _ js (s2.trans (sameB_of (same_upd nl))) (n2.same (same_upd nl)) ⟨ts, upd_same, pt.same (same_upd nl)⟩ ⟨by omega, by omega, g, hok⟩⟩⟩
end
end K7

set_option Elab.async false
set_option linter.all false
set_option maxRecDepth 100000
set_option maxHeartbeats 4000000
namespace K7
open PySem PySem.Spec PyProof.Rows L2 GX NdefX
/-! ### _law_come, _law_run -/
def spCome : Sp := fun vs H Q _ => ∃ (a L : Addr) (js : List Job) (t : Nat) (l : List Nat), vs = [.ref a, .ref L, .int (t : Nat)] ∧ JobsT H a js ∧ (∀ j ∈ js, JOk j) ∧ js.length ≤ 1000 ∧ H L = some (.lst (nts l)) ∧ l.length = js.length ∧
  ∀ H', SameB L H H' → H' L = some (.lst (nts (arr js t l))) → Q (.int (whoV (miss js t l))) H'
def spRun : Sp := fun vs H Q _ => ∃ (L : Addr) (l : List Nat), vs = [.ref L] ∧ H L = some (.lst (nts l)) ∧ l.length ≤ 1000 ∧ ∀ H', SameB L H H' → H' L = some (.lst (nts (runL l))) → Q (.int (whoV (runW l))) H'
theorem tup_b {L b : Addr} {H H' : Hp} {xs ys : List V} (s : SameB L H H') (hL : H L = some (.lst xs)) (h : H b = some (.tup ys)) : H' b = some (.tup ys) := s b _ (ne_of h hL (by intro q; cases q)) h
theorem JobsT.bl {L a : Addr} {H H' : Hp} {xs : List V} {js : List Job} (s : SameB L H H') (hL : H L = some (.lst xs)) (h : JobsT H a js) : JobsT H' a js := by
  obtain ⟨ts, e, p⟩ := h
  exact ⟨ts, tup_b s hL e, paired_imp (fun x c ⟨b, e, hb⟩ => ⟨b, e, tup_b s hL hb⟩) p⟩
theorem sameB_upd {L : Addr} {H : Hp} {o : HO} : SameB L H (upd H L o) := fun b _ n e => by rw [upd_ne n]; exact e
theorem nts_len' (l : List Nat) : (nts l).length = l.length := List.length_map _
section
variable {P : Program} {w : World} {K : PySem.W.Frag} {mg : Str → Option Value} {base : Heap}
theorem ok_run {k : Nat} (D : Pr P K mg) : FnOk P w K mg base CX0 (k + 1) D._law_run.f D._law_run.fd ["left"] spRun := by
  refine D._law_run.F.ok sc__law_run (fun vs H Q E h => ?_) (fun cdv A outer s H vs Q E hr h => ?_)
  · obtain ⟨L, l, rfl, _⟩ := h
    rfl
  · obtain ⟨L, l, rfl, hL, hl, q⟩ := h
    refine ⟨_, (pss_cons (ps_for PassesOwn.never rfl (pi_range1 (by rfl) D.B.range (pa_cons (pe_callB call_len (by rfl) D.B.len PySem.boot_len (pa_cons (pv 0) pa_nil)) pa_nil)) (pg_name (i := 1) sc__law_run.nd rfl (.inl rfl)) (pss_one (ps_if (pt_cmpR op_gt (pe_ix (r := rIxL K) ix_list (pv 0) (pv 1) (fun _ _ => rfl)) pe_int (nomark _)) (pss_cons (ps_asg (pe_op (r := rSubN) op_SubN (pe_ix (r := rIxL K) ix_list (pv 0) (pv 1) (fun _ _ => rfl)) pe_int) (pg_sub (pv 0) (pv 1) set_list)) (pss_one (ps_ret (pv 1)))) pss_nil)))
      (pss_one (ps_ret (pe_un un_neg pe_int)))), ?_⟩
    refine ⟨.ref L, rfl, .ref L, l.length, rfl, .inl ⟨_, sqL hL, (nts_len' l).symm⟩, (l.length : Nat), rfl, by omega, by omega, ?_⟩
    refine forRg (D := { nx := _, rt := Q }) (n := l.length) (fun i σ H' => (∃ c1, σ = [some (.ref L), c1]) ∧ H' = H ∧ ∀ k, k < i → l[k]? = some 0) ⟨⟨_, rfl⟩, rfl, fun k hk => by omega⟩ ?_ ?_
    · rintro i σ H2 hi ⟨⟨c1, rfl⟩, rfl, h0⟩
      obtain ⟨y, hy⟩ : ∃ y, l[i]? = some y := ⟨_, List.getElem?_eq_getElem hi⟩
      refine ⟨_, rfl, _, rfl, L, _, i, _, rfl, rfl, sqL hL, atI_nat (nts_at hy), (y : Nat), 0, rfl, rfl, _, rfl, ?_⟩
      cases y with
      | zero => exact iteFq (by rfl) ⟨⟨_, rfl⟩, rfl, fun k hk => by
          by_cases hki : k = i
          · rw [hki]; exact hy
          · exact h0 k (by omega)⟩
      | succ y =>
        obtain ⟨e1, e2⟩ := run_hit _ i y h0 hy
        rw [e2, e1] at q
        refine iteTq (decide_eq_true (by omega)) ⟨_, rfl, _, rfl, L, _, i, _, rfl, rfl, sqL hL, atI_nat (nts_at hy), y + 1, 1, rfl, rfl, by omega, _, rfl, _, rfl, L, _, _, i, rfl, rfl, hL, ixN_nat (by rw [nts_len']; exact hi), _, rfl, ?_⟩
        exact q _ sameB_upd (by rw [upd_same, nts_set]; rfl)
    · rintro σ H2 ⟨⟨c1, rfl⟩, rfl, h0⟩
      obtain ⟨e1, e2⟩ := run_none l h0
      rw [e2, e1] at q
      exact ⟨1, rfl, q _ (fun _ _ _ e => e) hL⟩
theorem ok_come {k : Nat} (D : Pr P K mg) : FnOk P w K mg base CX0 (k + 1) D._law_come.f D._law_come.fd ["jobs", "left", "tick"] spCome := by
  refine D._law_come.F.ok sc__law_come (fun vs H Q E h => ?_) (fun cdv A outer s H vs Q E hr h => ?_)
  · obtain ⟨a, L, js, t, l, rfl, _⟩ := h
    rfl
  · obtain ⟨a, L, js, t, l, rfl, hj, hok, hjl, hL, ln, q⟩ := h
    obtain ⟨ts, ha, pt⟩ := id hj
    have lts := jt_len pt
    refine ⟨_, (pss_cons (ps_set (i := 3) sc__law_come.nd rfl (.inl rfl) (pe_un un_neg pe_int))
      (pss_cons (ps_for PassesOwn.never rfl (pi_range1 (by rfl) D.B.range (pa_cons (pe_callB call_len (by rfl) D.B.len PySem.boot_len (pa_cons (pv 0) pa_nil)) pa_nil)) (pg_name (i := 4) sc__law_come.nd rfl (.inl rfl)) (pss_one (ps_if (pt_cmpR op_eq (pe_op (r := rModN) op_ModN (pe_callTy call_int1 (by rfl) D.B.int (by decide +kernel) (pa_cons (pv 2) pa_nil)) (pe_ix (r := rIxT K) ix_tup (pe_ix (r := rIxT K) ix_tup (pv 0) (pv 4) (fun _ _ => rfl)) pe_int (fun _ _ => rfl))) (pe_ix (r := rIxT K) ix_tup (pe_ix (r := rIxT K) ix_tup (pv 0) (pv 4) (fun _ _ => rfl)) pe_int (fun _ _ => rfl)) (nomark _)) (pss_cons (ps_if (PW.pt (pw_and (pt_cmpR op_gt (pe_ix (r := rIxL K) ix_list (pv 1) (pv 4) (fun _ _ => rfl)) pe_int (nomark _)) (pw_and1 (pt_cmpR op_lt (pv 3) pe_int (nomark _))))) (pss_one (ps_set (i := 3) sc__law_come.nd rfl (.inl rfl) (pv 4))) pss_nil) (pss_one (ps_asg (pe_op (r := rAddN) op_AddN (pe_ix (r := rIxL K) ix_list (pv 1) (pv 4) (fun _ _ => rfl)) (pe_ix (r := rIxT K) ix_tup (pe_ix (r := rIxT K) ix_tup (pv 0) (pv 4) (fun _ _ => rfl)) pe_int (fun _ _ => rfl))) (pg_sub (pv 1) (pv 4) set_list)))) pss_nil)))
      (pss_one (ps_ret (pv 3))))), ?_⟩
    refine ⟨1, rfl, .ref a, rfl, .ref a, js.length, rfl, .inr ⟨_, sqT ha, lts.symm⟩, (js.length : Nat), rfl, by omega, by omega, ?_⟩
    refine forRg (D := { nx := _, rt := Q }) (n := js.length) (fun i σ H' => (∃ c4, σ = [some (.ref a), some (.ref L), some (.int (t : Nat)), some (.int (whoV (missP js t l i))), c4]) ∧ SameB L H H' ∧ H' L = some (.lst (nts (part js t l i)))) ⟨⟨_, rfl⟩, fun _ _ _ e => e, hL⟩ ?_ ?_
    · rintro i σ H2 hi ⟨⟨c4, rfl⟩, s2, hL2⟩
      obtain ⟨j, b, hji, hbx, hb⟩ := jobs_got pt (List.getElem?_eq_getElem (show i < ts.length by omega))
      have hbi : ts[i]? = some (.ref b) := by rw [List.getElem?_eq_getElem (show i < ts.length by omega), hbx]
      have jk := hok j (List.mem_of_getElem? hji)
      have ha2 := tup_b s2 hL ha
      have hb2 := tup_b s2 hL hb
      obtain ⟨y, hy⟩ : ∃ y, l[i]? = some y := ⟨_, List.getElem?_eq_getElem (by omega)⟩
      have hyp : (part js t l i)[i]? = some y := by rw [part_get ln hi, hy]
      refine ⟨_, rfl, .inl ⟨_, rfl, _, rfl, _, rfl, a, ts, i, .ref b, rfl, rfl, sqT ha2, atI_nat hbi, b, _, 1, _, rfl, rfl, sqT hb2, atI_nat (j := 1) rfl, t, j.p, rfl, rfl, jk.p1, _, rfl, _, rfl, a, ts, i, .ref b, rfl, rfl, sqT ha2, atI_nat hbi, b, _, 2, _, rfl, rfl, sqT hb2, atI_nat (j := 2) rfl, rfl, _, rfl, ?_⟩⟩
      have hct : decide (V.int ((t % j.p : Nat) : Int) = V.int ((j.o : Nat) : Int)) = comes j t := by
        unfold comes
        rw [Bool.eq_iff_iff, decide_eq_true_iff, beq_iff_eq]
        exact ⟨fun z => by injection z with z; exact_mod_cast z, fun z => by rw [z]⟩
      have hmn := missP_succ (t := t) ln hji hy
      by_cases hcm : comes j t = true
      · have hps : part js t l (i + 1) = (part js t l i).set i (y + j.r) := by
          rw [part_succ ln hji hy]
          unfold come1
          rw [if_pos hcm]
        refine iteTq (hct.trans hcm) ?_
        refine ⟨_, rfl, _, rfl, L, _, i, _, rfl, rfl, sqL hL2, atI_nat (nts_at hyp), (y : Nat), 0, rfl, rfl, _, rfl, ?_⟩
        by_cases hy0 : 0 < y
        · refine iteTq (decide_eq_true (by omega)) ⟨_, rfl, _, _, rfl, rfl, _, rfl, ?_⟩
          cases hmp : missP js t l i with
          | some z =>
            have e2 : missP js t l (i + 1) = some z := by rw [hmn, hmp]
            refine iteFq (decide_eq_false (by show ¬ ((z : Nat) : Int) < 0; omega)) ?_
            exact ⟨_, rfl, _, rfl, L, _, i, _, rfl, rfl, sqL hL2, atI_nat (nts_at hyp), _, rfl, _, rfl, a, ts, i, .ref b, rfl, rfl, sqT ha2, atI_nat hbi, b, _, 0, _, rfl, rfl, sqT hb2, atI_nat (j := 0) rfl, y, j.r, rfl, rfl, _, rfl, _, rfl, L, _, _, i, rfl, rfl, hL2, ixN_nat (by rw [nts_len', part_len ln (by omega)]; exact hi), ⟨some (.int (i : Nat)), by rw [e2]; rfl⟩, s2.trans sameB_upd, by rw [upd_same, nts_set, ← hps]⟩
          | none =>
            have e2 : missP js t l (i + 1) = some i := by rw [hmn, hmp]; exact if_pos ⟨hcm, hy0⟩
            refine iteTq (decide_eq_true (by show (-1 : Int) < 0; decide)) ⟨_, rfl, ?_⟩
            exact ⟨_, rfl, _, rfl, L, _, i, _, rfl, rfl, sqL hL2, atI_nat (nts_at hyp), _, rfl, _, rfl, a, ts, i, .ref b, rfl, rfl, sqT ha2, atI_nat hbi, b, _, 0, _, rfl, rfl, sqT hb2, atI_nat (j := 0) rfl, y, j.r, rfl, rfl, _, rfl, _, rfl, L, _, _, i, rfl, rfl, hL2, ixN_nat (by rw [nts_len', part_len ln (by omega)]; exact hi), ⟨some (.int (i : Nat)), by rw [e2]; rfl⟩, s2.trans sameB_upd, by rw [upd_same, nts_set, ← hps]⟩
        · have e2 : missP js t l (i + 1) = missP js t l i := by
            rw [hmn]
            cases missP js t l i with
            | some z => rfl
            | none => exact if_neg fun z => hy0 z.2
          refine iteFq (decide_eq_false (by omega)) ?_
          exact ⟨_, rfl, _, rfl, L, _, i, _, rfl, rfl, sqL hL2, atI_nat (nts_at hyp), _, rfl, _, rfl, a, ts, i, .ref b, rfl, rfl, sqT ha2, atI_nat hbi, b, _, 0, _, rfl, rfl, sqT hb2, atI_nat (j := 0) rfl, y, j.r, rfl, rfl, _, rfl, _, rfl, L, _, _, i, rfl, rfl, hL2, ixN_nat (by rw [nts_len', part_len ln (by omega)]; exact hi), ⟨some (.int (i : Nat)), by rw [e2]; rfl⟩, s2.trans sameB_upd, by rw [upd_same, nts_set, ← hps]⟩
      · have hcf : comes j t = false := by simpa using hcm
        refine iteFq (hct.trans hcf) ⟨⟨some (.int (i : Nat)), ?_⟩, s2, by rw [part_same ln hji hy hcf]; exact hL2⟩
        have e2 : missP js t l (i + 1) = missP js t l i := by
          rw [hmn]
          cases missP js t l i with
          | some z => rfl
          | none => exact if_neg fun z => hcm z.1
        rw [e2]
        rfl
    · rintro σ H2 ⟨⟨c4, rfl⟩, s2, hL2⟩
      rw [part_all ln] at hL2
      rw [missP_all ln]
      exact ⟨_, rfl, q H2 s2 hL2⟩
end
end K7

set_option Elab.async false
set_option linter.all false
set_option maxRecDepth 100000
set_option maxHeartbeats 4000000
namespace K7
open PySem PySem.Spec PyProof.Rows L2 GX NdefX
/-! ### _law_who, _law_common -/
theorem zeros_of {ts : List V} : ∀ {n : Nat}, Paired (fun (x : V) (_ : Nat) => x = V.int 0) ts (List.range n) → ts = nts (List.replicate n 0) := fun {n} p => by
  have e := paired_eq (g := fun _ => V.int 0) p
  rw [e]
  unfold nts
  rw [List.map_replicate, List.map_const', List.length_range]
  rfl
theorem same_bl {L : Addr} {H H1 H2 : Hp} (s : Same H H1) (k : SameB L H1 H2) (nL : H L = none) : Same H H2 := fun b o e => k b o (ne_of_none e nL) (s b o e)
def spLWho : Sp := fun vs H Q _ => ∃ (a : Addr) (js : List Job) (n : Nat), vs = [.ref a, .int (n : Nat)] ∧ JobsT H a js ∧ (∀ j ∈ js, JOk j) ∧ js.length ≤ 1000 ∧ n ≤ 4000 ∧ ∀ T H', Same H H' → H' T = some (.tup (whoT js n)) → Q (.ref T) H'
def spCommon : Sp := fun vs H Q _ => ∃ (a : Addr) (js : List Job), vs = [.ref a] ∧ JobsT H a js ∧ (∀ j ∈ js, JOk j) ∧ js.length ≤ 1000 ∧ (∃ c0, 1 ≤ c0 ∧ c0 ≤ 60 ∧ ∀ j ∈ js, j.p ∣ c0) ∧
  ∀ H' c, Same H H' → 1 ≤ c → (∀ j ∈ js, j.p ∣ c) → (∀ c0, 1 ≤ c0 → (∀ j ∈ js, j.p ∣ c0) → c ≤ c0) → Q (.int (c : Nat)) H'
section
variable {P : Program} {w : World} {K : PySem.W.Frag} {mg : Str → Option Value} {base : Heap}
theorem ok_lwho {k : Nat} (D : Pr P K mg) : FnOk P w K mg base CX0 (k + 2) D._law_who.f D._law_who.fd ["jobs", "ticks"] spLWho := by
  have G__law_come : FnOk P w K mg base CX0 (k + 1) D._law_come.f D._law_come.fd ["jobs", "left", "tick"] spCome := ok_come D
  have G__law_run : FnOk P w K mg base CX0 (k + 1) D._law_run.f D._law_run.fd ["left"] spRun := ok_run D
  refine D._law_who.F.ok sc__law_who (fun vs H Q E h => ?_) (fun cdv A outer s H vs Q E hr h => ?_)
  · obtain ⟨a, js, n, rfl, _⟩ := h
    rfl
  · obtain ⟨a, js, n, rfl, hj, hok, hjl, hn, q⟩ := h
    obtain ⟨ts, ha, pt⟩ := id hj
    have lts := jt_len pt
    refine ⟨_, (pss_cons (ps_setLc (i := 2) (own := [("job", 3)]) (g := (gName 3)) (tt := tYes) rfl sc__law_who.nd rfl rfl (sw_true rfl rfl rfl (by decide +kernel)) (pi_tup (pv 0)) (blkOk_by (own := [("job", 3)]) (N := n__law_who) (sc := defScope s__law_who) (by decide +kernel)) (fun _ _ _ _ _ => (pg_name (i := 3) sc__law_who.nd rfl (.inl rfl))) (fun _ _ _ _ _ => pts_nil) (fun _ _ _ _ _ => pe_int))
      (pss_cons (ps_set (i := 4) sc__law_who.nd rfl (.inl rfl) (pe_lst pa_nil))
      (pss_cons (ps_for PassesOwn.never rfl (pi_range1 (by rfl) D.B.range (pa_cons (pv 1) pa_nil)) (pg_name (i := 5) sc__law_who.nd rfl (.inl rfl)) (pss_cons (ps_expr (pe_call G__law_come hr (by rfl) D._law_come.g D._law_come.F.kp D._law_come.b .nil pass0 (pa_cons (pv 0) (pa_cons (pv 2) (pa_cons (pv 5) pa_nil))))) (pss_one (ps_expr (pe_bm PySem.F.plainAttrs_list PySem.F.slot_list_append PySem.F.type_list_append mt_append (pv 4) (pa_cons (pe_call G__law_run hr (by rfl) D._law_run.g D._law_run.F.kp D._law_run.b .nil pass0 (pa_cons (pv 2) pa_nil)) pa_nil))))))
      (pss_one (ps_ret (pe_callTy call_tuple_of (by rfl) D.B.tuple (by decide +kernel) (pa_cons (pv 4) pa_nil))))))), ?_⟩
    refine ⟨.ref a, rfl, a, rfl, ⟨_, sqT ha⟩, lcTup (fun i H y => y = V.int 0) (fun i H H' x s h => h) (fun D i H x us ys e _ h => h) ha (by omega) (fun Dl i y H2 Qk Qn hy s2 nDl eDl hk => ⟨rfl, iteT (B := Qn H2) (hk _ H2 rfl (Same.refl _))⟩) (fun L H1 us nL s1 eL pu => ?_)⟩
    rw [lts] at pu
    obtain rfl := zeros_of pu
    refine ⟨by decide, fun R nR => ?_⟩
    have nRH := s1.free nR
    have nLR : L ≠ R := ne_of_none eL nR
    refine ⟨.int (n : Nat), rfl, (n : Nat), rfl, by omega, by omega, ?_⟩
    have sR := same_upd nR (o := .lst [])
    refine forRg (D := { nx := _, rt := Q }) (n := n) (fun i σ H' => (∃ c3 c5, σ = [some (.ref a), some (.int (n : Nat)), some (.ref L), c3, some (.ref R), c5]) ∧ Same H H' ∧ H' L = some (.lst (nts (lefts js i))) ∧ H' R = some (.lst (whoT js i))) ⟨⟨_, _, rfl⟩, s1.trans sR, sR _ _ eL, upd_same⟩ ?_ ?_
    · rintro i σ H2 hi ⟨⟨c3, c5, rfl⟩, s2, eL2, eR2⟩
      refine ⟨_, rfl, _, rfl, _, rfl, a, L, js, i, _, rfl, hj.same s2, hok, hjl, eL2, lefts_len js i, fun H3 b3 eL3 => ?_⟩
      have s3 := same_bl s2 b3 nL
      have eR3 := b3 _ _ nLR.symm eR2
      refine ⟨.ref R, rfl, .inl ⟨rfl, _, sqL eR3⟩, _, rfl, L, _, rfl, eL3, by rw [arr_len (lefts_len js i)]; exact hjl, fun H4 b4 eL4 => ?_⟩
      have s4 := same_bl s3 b4 nL
      have eR4 := b4 _ _ nLR.symm eR3
      refine ⟨R, _, _, rfl, rfl, eR4, by rw [whoT_len, sizeLine_eq]; omega, ⟨_, _, rfl⟩, fun b o hb => by rw [upd_ne (ne_of_none hb nRH)]; exact s4 _ _ hb, by rw [upd_ne nLR]; exact eL4, by rw [upd_same, whoT_succ]; rfl⟩
    · rintro σ H2 ⟨⟨c3, c5, rfl⟩, s2, eL2, eR2⟩
      exact ⟨.ref R, rfl, R, _, rfl, .inl ⟨sqL eR2, fun l nl => q l _ (s2.trans (same_upd nl)) upd_same⟩⟩
theorem ok_common {k : Nat} (D : Pr P K mg) : FnOk P w K mg base CX0 (k + 1) D._law_common.f D._law_common.fd ["jobs"] spCommon := by
  refine D._law_common.F.ok sc__law_common (fun vs H Q E h => ?_) (fun cdv A outer s H vs Q E hr h => ?_)
  · obtain ⟨a, js, rfl, _⟩ := h
    rfl
  · obtain ⟨a, js, rfl, hj, hok, hjl, ⟨c0, c1', c60, cd⟩, q⟩ := h
    obtain ⟨ts, ha, pt⟩ := id hj
    have lts := jt_len pt
    refine ⟨_, (pss_cons (ps_for PassesOwn.never rfl (pi_range2 (by rfl) D.B.range (pa_cons pe_int (pa_cons pe_int pa_nil))) (pg_name (i := 1) sc__law_common.nd rfl (.inr rfl)) (pss_one (ps_if (pt_cmpR op_eq (pe_callB call_len (by rfl) D.B.len PySem.boot_len (pa_cons (pe_lc (own := [("job", 2)]) (g := (gName 2)) rfl sc__law_common.nd (pi_tup (pv 0)) (blkOk_by (own := [("job", 2)]) (N := n__law_common) (sc := defScope s__law_common) (by decide +kernel)) (fun _ _ _ _ _ => (pg_name (i := 2) sc__law_common.nd rfl (.inl rfl))) (fun _ _ _ _ _ => (pts_one (pt_cmpR op_ne (pe_op (r := rModN) op_ModN (pe_callTy call_int1 (by rfl) D.B.int (by decide +kernel) (pa_cons (pv 1) pa_nil)) (pe_ix (r := rIxT K) ix_tup (pv 2) pe_int (fun _ _ => rfl))) pe_int (nomark _)))) (fun _ _ _ _ _ => (pv 2))) pa_nil)) pe_int (nomark _)) (pss_one (ps_ret (pv 1))) pss_nil)))
      (pss_one (ps_ret pe_int))), ?_⟩
    refine ⟨1, 61, rfl, by decide, forRgL (lo := 1) (n := 60) (D := { nx := _, rt := Q }) (fun i σ H' => (∃ c1 c2, σ = [some (.ref a), c1, c2]) ∧ Same H H' ∧ ∀ c, 1 ≤ c → c < i + 1 → ¬ ∀ j ∈ js, j.p ∣ c) ⟨⟨_, _, rfl⟩, Same.refl _, fun c h1 h2 => by omega⟩ ?_ ?_⟩
    · rintro i σ H2 hi ⟨⟨c1, c2, rfl⟩, s2, hno⟩
      have ha2 := s2 _ _ ha
      refine ⟨.ref a, rfl, a, rfl, ⟨_, sqT ha2⟩, fun Dl nDl => lcPred (n := ts.length) (fun x => decide ((1 + i) % (jobAt js x).p ≠ 0)) (fun _ _ _ => True) (fun _ _ _ _ _ h => h) (fun _ _ _ _ _ _ h => h) nDl (by omega) (fun x H3 h s => ⟨ts, ts[x], sqT (s _ _ ha2), List.getElem?_eq_getElem h⟩) (fun H3 s => ⟨ts, sqT (s _ _ ha2), Nat.le_refl _⟩) ?_ ?_⟩
      · rintro x y H3 H4 Qk Qn hx s3 eD ⟨rfl, hy⟩ hk1 hk2
        have hxy := hy ts (sqT (s3 _ _ ha2))
        obtain ⟨j, b, hj', rfl, hb⟩ := jobs_got pt hxy
        have jk := hok j (List.mem_of_getElem? hj')
        have hb3 := s3 _ _ (s2 _ _ hb)
        have ej := jobAt_get hj'
        refine ⟨rfl, _, rfl, .inl ⟨_, rfl, _, rfl, b, _, 1, _, rfl, rfl, sqT hb3, atI_nat (j := 1) rfl, 1 + i, j.p, rfl, rfl, jk.p1, rfl, _, rfl, ?_⟩⟩
        by_cases z : (1 + i) % j.p = 0
        · refine iteFq (by rw [z]; rfl) (hk2 _ ?_ (Same.refl _))
          show decide ((1 + i) % (jobAt js x).p ≠ 0) = false
          rw [ej]
          exact decide_eq_false (fun y => y z)
        · refine iteTq ?_ ⟨_, rfl, hk1 _ _ ?_ trivial (Same.refl _)⟩
          · rw [decide_eq_false (fun y => z (by injection y with y; exact_mod_cast y))]; rfl
          · show decide ((1 + i) % (jobAt js x).p ≠ 0) = true
            rw [ej]
            exact decide_eq_true z
      · intro H3 us s3 eD pu
        have lu := pu.length
        refine ⟨.ref Dl, us.length, rfl, .inl ⟨_, sqL eD, rfl⟩, rfl, _, rfl, ?_⟩
        by_cases z : us.length = 0
        · refine iteTq (decide_eq_true (by rw [z]; rfl)) ⟨_, rfl, q H3 (1 + i) (s2.trans s3) (by omega) (fun j hj => ?_) fun c0 h1 h2 => ?_⟩
          · rw [z] at lu
            have em := List.eq_nil_of_length_eq_zero lu.symm
            obtain ⟨x, hx⟩ := List.mem_iff_getElem?.mp hj
            have hxl : x < ts.length := by rw [lts]; exact (List.getElem?_eq_some_iff.mp hx).1
            have := (List.filter_eq_nil_iff.mp em) x (List.mem_range.mpr hxl)
            rw [decide_eq_true_iff, jobAt_get hx] at this
            exact Nat.dvd_of_mod_eq_zero (Decidable.not_not.mp this)
          · rcases Nat.lt_or_ge c0 (i + 1) with y | y
            · exact absurd h2 (hno c0 h1 y)
            · omega
        · refine iteFq (decide_eq_false (fun y => z (by injection y with y; exact_mod_cast y))) ⟨⟨_, _, rfl⟩, s2.trans s3, fun c h1 h2 => ?_⟩
          by_cases e : c < i + 1
          · exact hno c h1 e
          · obtain rfl : c = 1 + i := by omega
            intro hd
            have : (List.range ts.length).filter (fun x => decide ((1 + i) % (jobAt js x).p ≠ 0)) = [] := by
              refine List.filter_eq_nil_iff.mpr fun x hx => ?_
              have hx := List.mem_range.mp hx
              rw [lts] at hx
              rw [decide_eq_true_iff, jobAt_get (List.getElem?_eq_getElem hx)]
              exact fun y => y (Nat.mod_eq_zero_of_dvd (hd _ (List.getElem_mem hx)))
            rw [this] at lu
            exact z lu
    · rintro σ H2 ⟨⟨c1, c2, rfl⟩, s2, hno⟩
      exact absurd cd (hno c0 c1' (by omega))
end
end K7

set_option Elab.async false
set_option linter.all false
set_option maxRecDepth 100000
set_option maxHeartbeats 4000000
namespace K7
open PySem PySem.Spec PyProof.Rows L2 GX NdefX
/-! ### _law_missed, _law_missed_at -/
def IL (l : List Nat) : List Int := l.map fun n => ((n : Nat) : Int)
theorem IL_v (l : List Nat) : (IL l).map V.int = nts l := by unfold IL nts; rw [List.map_map]; rfl
theorem IL_inj : ∀ {l m : List Nat}, IL l = IL m → l = m
  | [], [], _ => rfl
  | [], _ :: _, h => by cases h
  | _ :: _, [], h => by cases h
  | x :: l, y :: m, h => by
    have h : ((x : Nat) : Int) :: IL l = ((y : Nat) : Int) :: IL m := h
    injection h with h1 h2
    rw [IL_inj h2, Int.ofNat.inj h1]
theorem dpLst {K : PySem.W.Frag} {H : Hp} {T : Addr} {ks : List Int} (h : H T = some (.lst (ks.map V.int))) : Dp K H (.ref T) (.list (ks.map PyData.int)) := .lst (sqL h) (dpInts ks)
theorem shLst (ks : List Int) : SeqAt.shaped (.list (ks.map PyData.int)) = true := by
  unfold SeqAt.shaped
  rw [show PyData.canLay0 (.list (ks.map PyData.int)) = PyData.canLayAll0 (ks.map PyData.int) from rfl, canInts, Bool.true_and, decide_eq_true_eq]
  show PyData.depthAll (ks.map PyData.int) + 1 ≤ 64
  rw [depInts]
  decide
theorem eqLst (ks ls : List Int) : PyData.eqv (.list (ks.map PyData.int)) (.list (ls.map PyData.int)) = decide (ks = ls) := by
  rw [PyData.eqv]
  exact eqvInts ks ls
def spLMissed : Sp := fun vs H Q _ => ∃ (a : Addr) (js : List Job), vs = [.ref a] ∧ JobsT H a js ∧ OkSet js ∧ ∀ mv H' r, Same H H' → MisV H' mv r → IsFM js r → Q mv H'
def spMisAt : Sp := fun vs H Q _ => ∃ (a : Addr) (js : List Job) (i t : Nat), vs = [.ref a] ∧ JobsT H a js ∧ (∀ j ∈ js, JOk j) ∧ js.length ≤ 1000 ∧ t < 1500 ∧ IsFM js (some (i, t)) ∧ ∀ mv H', Same H H' → MisV H' mv (some (i, t)) → Q mv H'
/-- what is kept: the rests at the multiple before -/
def kept (js : List Job) (c : Nat) : Nat → List Int
  | 0 => [-1]
  | n + 1 => IL (lefts js (c * n))
theorem kept_ne {l : List Nat} : ([-1] : List Int) ≠ IL l := by
  intro h
  cases l with
  | nil => cases h
  | cons x l =>
    have h : ([-1] : List Int) = ((x : Nat) : Int) :: IL l := h
    injection h with h1 h2
    omega
section
variable {P : Program} {w : World} {K : PySem.W.Frag} {mg : Str → Option Value} {base : Heap}
theorem ok_misat {k : Nat} (D : Pr P K mg) : FnOk P w K mg base CX0 (k + 2) D._law_missed_at.f D._law_missed_at.fd ["jobs"] spMisAt := by
  have G__law_come : FnOk P w K mg base CX0 (k + 1) D._law_come.f D._law_come.fd ["jobs", "left", "tick"] spCome := ok_come D
  have G__law_run : FnOk P w K mg base CX0 (k + 1) D._law_run.f D._law_run.fd ["left"] spRun := ok_run D
  refine D._law_missed_at.F.ok sc__law_missed_at (fun vs H Q E h => ?_) (fun cdv A outer s H vs Q E hr h => ?_)
  · obtain ⟨a, js, i, t, rfl, _⟩ := h
    rfl
  · obtain ⟨a, js, i0, t0, rfl, hj, hok, hjl, ht, hfm, q⟩ := h
    obtain ⟨ts, ha, pt⟩ := id hj
    have lts := jt_len pt
    refine ⟨_, (pss_cons (ps_setLc (i := 1) (own := [("job", 2)]) (g := (gName 2)) (tt := tYes) rfl sc__law_missed_at.nd rfl rfl (sw_true rfl rfl rfl (by decide +kernel)) (pi_tup (pv 0)) (blkOk_by (own := [("job", 2)]) (N := n__law_missed_at) (sc := defScope s__law_missed_at) (by decide +kernel)) (fun _ _ _ _ _ => (pg_name (i := 2) sc__law_missed_at.nd rfl (.inl rfl))) (fun _ _ _ _ _ => pts_nil) (fun _ _ _ _ _ => pe_int))
      (pss_cons (ps_for PassesOwn.never rfl (pi_range1 (by rfl) D.B.range (pa_cons pe_int pa_nil)) (pg_name (i := 3) sc__law_missed_at.nd rfl (.inl rfl)) (pss_cons (ps_set (i := 4) sc__law_missed_at.nd rfl (.inl rfl) (pe_call G__law_come hr (by rfl) D._law_come.g D._law_come.F.kp D._law_come.b .nil pass0 (pa_cons (pv 0) (pa_cons (pv 1) (pa_cons (pv 3) pa_nil))))) (pss_cons (ps_if (pt_cmpR op_ge (pv 4) pe_int (nomark _)) (pss_one (ps_ret (pe_tup (pa_cons (pv 4) (pa_cons (pv 3) pa_nil))))) pss_nil) (pss_one (ps_expr (pe_call G__law_run hr (by rfl) D._law_run.g D._law_run.F.kp D._law_run.b .nil pass0 (pa_cons (pv 1) pa_nil)))))))
      (pss_one (ps_ret pe_non)))), ?_⟩
    refine ⟨.ref a, rfl, a, rfl, ⟨_, sqT ha⟩, lcTup (fun i H y => y = V.int 0) (fun i H H' x s h => h) (fun D i H x us ys e _ h => h) ha (by omega) (fun Dl i y H2 Qk Qn hy s2 nDl eDl hk => ⟨rfl, iteT (B := Qn H2) (hk _ H2 rfl (Same.refl _))⟩) (fun L H1 us nL s1 eL pu => ?_)⟩
    rw [lts] at pu
    obtain rfl := zeros_of pu
    refine ⟨1500, rfl, by decide, by decide, forRg (D := { nx := _, rt := Q }) (n := 1500) (fun i σ H' => (∃ c2 c3 c4, σ = [some (.ref a), some (.ref L), c2, c3, c4]) ∧ Same H H' ∧ H' L = some (.lst (nts (lefts js i))) ∧ NoM js i) ⟨⟨_, _, _, rfl⟩, s1, eL, fun t h => by omega⟩ ?_ ?_⟩
    · rintro i σ H2 hi ⟨⟨c2, c3, c4, rfl⟩, s2, eL2, nm⟩
      refine ⟨_, rfl, _, rfl, _, rfl, a, L, js, i, _, rfl, hj.same s2, hok, hjl, eL2, lefts_len js i, fun H3 b3 eL3 => ?_⟩
      have s3 := same_bl s2 b3 nL
      refine ⟨_, rfl, _, 0, rfl, rfl, _, rfl, ?_⟩
      cases hm : miss js i (lefts js i) with
      | some x =>
        refine iteTq (decide_eq_true (by show (0 : Int) ≤ (x : Nat); omega)) ⟨_, rfl, _, rfl, by show 2 ≤ sizeLine; decide, fun U nU => ?_⟩
        have e : (some (x, i)) = some (i0, t0) := IsFM.uniq (js := js) (r := some (x, i)) ⟨hm, nm⟩ hfm
        have sU := same_upd nU (o := .tup [.int (x : Nat), .int (i : Nat)])
        refine q _ _ (s3.trans sU) ?_
        rw [← e]
        exact ⟨U, rfl, upd_same⟩
      | none =>
        refine iteFq (decide_eq_false (by show ¬ (0 : Int) ≤ -1; decide)) ⟨_, rfl, L, _, rfl, eL3, by rw [arr_len (lefts_len js i)]; exact hjl, fun H4 b4 eL4 => ?_⟩
        exact ⟨⟨_, _, _, rfl⟩, same_bl s3 b4 nL, eL4, nm.succ hm⟩
    · rintro σ H2 ⟨⟨c2, c3, c4, rfl⟩, s2, eL2, nm⟩
      have := nm t0 ht
      rw [hfm.1] at this
      cases this
theorem ok_lmissed {k : Nat} (D : Pr P K mg) : FnOk P w K mg base CX0 (k + 2) D._law_missed.f D._law_missed.fd ["jobs"] spLMissed := by
  have G__law_come : FnOk P w K mg base CX0 (k + 1) D._law_come.f D._law_come.fd ["jobs", "left", "tick"] spCome := ok_come D
  have G__law_run : FnOk P w K mg base CX0 (k + 1) D._law_run.f D._law_run.fd ["left"] spRun := ok_run D
  have G__law_common : FnOk P w K mg base CX0 (k + 1) D._law_common.f D._law_common.fd ["jobs"] spCommon := ok_common D
  refine D._law_missed.F.ok sc__law_missed (fun vs H Q E h => ?_) (fun cdv A outer s H vs Q E hr h => ?_)
  · obtain ⟨a, js, rfl, _⟩ := h
    rfl
  · obtain ⟨a, js, rfl, hj, oks, q⟩ := h
    obtain ⟨ts, ha, pt⟩ := id hj
    have lts := jt_len pt
    have hok := oks.ok
    have hjl : js.length ≤ 1000 := by have := oks.2.1; omega
    obtain ⟨c0, c1', c60, cd, cb⟩ := oks.com
    refine ⟨_, (pss_cons (ps_setLc (i := 1) (own := [("job", 2)]) (g := (gName 2)) (tt := tYes) rfl sc__law_missed.nd rfl rfl (sw_true rfl rfl rfl (by decide +kernel)) (pi_tup (pv 0)) (blkOk_by (own := [("job", 2)]) (N := n__law_missed) (sc := defScope s__law_missed) (by decide +kernel)) (fun _ _ _ _ _ => (pg_name (i := 2) sc__law_missed.nd rfl (.inl rfl))) (fun _ _ _ _ _ => pts_nil) (fun _ _ _ _ _ => pe_int))
      (pss_cons (ps_set (i := 3) sc__law_missed.nd rfl (.inl rfl) (pe_call G__law_common hr (by rfl) D._law_common.g D._law_common.F.kp D._law_common.b .nil pass0 (pa_cons (pv 0) pa_nil)))
      (pss_cons (ps_set (i := 4) sc__law_missed.nd rfl (.inl rfl) (pe_lst (pa_cons (pe_un un_neg pe_int) pa_nil)))
      (pss_cons (ps_for PassesOwn.never rfl (pi_range1 (by rfl) D.B.range (pa_cons pe_int pa_nil)) (pg_name (i := 5) sc__law_missed.nd rfl (.inl rfl)) (pss_cons (ps_if (pt_cmpR op_eq (pe_op (r := rModN) op_ModN (pe_callTy call_int1 (by rfl) D.B.int (by decide +kernel) (pa_cons (pv 5) pa_nil)) (pv 3)) pe_int (nomark _)) (pss_cons (ps_if (pt_cmpR (op_eqD hr.units) (pv 4) (pv 1) (nomark _)) (pss_one (ps_ret pe_non)) pss_nil) (pss_one (ps_set (i := 4) sc__law_missed.nd rfl (.inl rfl) (pe_callTy call_list_of (by rfl) D.B.list (by decide +kernel) (pa_cons (pv 1) pa_nil))))) pss_nil) (pss_cons (ps_set (i := 6) sc__law_missed.nd rfl (.inl rfl) (pe_call G__law_come hr (by rfl) D._law_come.g D._law_come.F.kp D._law_come.b .nil pass0 (pa_cons (pv 0) (pa_cons (pv 1) (pa_cons (pv 5) pa_nil))))) (pss_cons (ps_if (pt_cmpR op_ge (pv 6) pe_int (nomark _)) (pss_one (ps_ret (pe_tup (pa_cons (pv 6) (pa_cons (pv 5) pa_nil))))) pss_nil) (pss_one (ps_expr (pe_call G__law_run hr (by rfl) D._law_run.g D._law_run.F.kp D._law_run.b .nil pass0 (pa_cons (pv 1) pa_nil))))))))
      (pss_one (ps_ret pe_non)))))), ?_⟩
    refine ⟨.ref a, rfl, a, rfl, ⟨_, sqT ha⟩, lcTup (fun i H y => y = V.int 0) (fun i H H' x s h => h) (fun D i H x us ys e _ h => h) ha (by omega) (fun Dl i y H2 Qk Qn hy s2 nDl eDl hk => ⟨rfl, iteT (B := Qn H2) (hk _ H2 rfl (Same.refl _))⟩) (fun L H1 us nL s1 eL pu => ?_)⟩
    rw [lts] at pu
    obtain rfl := zeros_of pu
    refine ⟨.ref a, rfl, a, js, rfl, hj.same s1, hok, hjl, ⟨c0, c1', c60, cd⟩, fun H2 c s2 hc1 hcd hcl => ?_⟩
    have per : Per js c := ⟨hc1, hcd⟩
    have hcb : c * ((js.map (·.r)).sum + 1) < 1500 := Nat.lt_of_le_of_lt (Nat.mul_le_mul_right _ (hcl c0 c1' cd)) cb
    refine ⟨1, rfl, by decide, fun K0 nK => ?_⟩
    have s12 := s1.trans s2
    have nKH := s12.free nK
    have sK := same_upd nK (o := .lst [.int (-1)])
    have eL2 := s2 _ _ eL
    have nLK : L ≠ K0 := ne_of_none eL2 nK
    refine ⟨1500, rfl, by decide, by decide, forRg (D := { nx := _, rt := Q }) (n := 1500) (fun T σ H' => ∃ n, (∃ c2 c5 c6 Kp, σ = [some (.ref a), some (.ref L), c2, some (.int (c : Nat)), some (.ref Kp), c5, c6] ∧ L ≠ Kp ∧ H' Kp = some (.lst ((kept js c n).map V.int))) ∧ Same H H' ∧ H' L = some (.lst (nts (lefts js T))) ∧ NoM js T ∧ T ≤ c * n ∧ c * n < T + c ∧ ∀ k, k + 1 < n → lefts js (c * k) ≠ lefts js (c * (k + 1)))
      ⟨0, ⟨_, _, _, K0, rfl, nLK, upd_same⟩, s12.trans sK, sK _ _ eL2, fun t h => by omega, by omega, by omega, fun k h => by omega⟩ ?_ ?_⟩
    · rintro T σ H3 hT ⟨n, ⟨c2, c5, c6, Kp, rfl, nLp, eK⟩, s3, eL3, nm, t1, t2, ne⟩
      obtain ⟨am1, am2⟩ := at_mult hc1 t1 t2
      refine ⟨_, rfl, .inl ⟨_, rfl, _, rfl, T, c, rfl, rfl, hc1, rfl, _, rfl, ?_⟩⟩
      by_cases h0 : T % c = 0
      · have eT := am1 h0
        have dK : Dp K H3 (.ref Kp) (.list ((kept js c n).map PyData.int)) := dpLst eK
        have dL : Dp K H3 (.ref L) (.list ((IL (lefts js T)).map PyData.int)) := dpLst (by rw [IL_v]; exact eL3)
        refine iteTq (decide_eq_true (by rw [h0]; rfl)) ⟨_, rfl, _, rfl, _, _, dK, dL, shLst _, shLst _, _, rfl, ?_⟩
        by_cases he : kept js c n = IL (lefts js T)
        · refine iteTq (by rw [eqLst]; exact decide_eq_true he) ?_
          refine q .non _ none s3 rfl ?_
          cases n with
          | zero => exact absurd he kept_ne
          | succ n => exact never_of_rep per (Nat.lt_succ_self n) (by rw [← eT]; exact IL_inj he) (by rw [← eT]; exact nm)
        refine iteFq (by rw [eqLst]; exact decide_eq_false he) ⟨_, rfl, L, _, rfl, .inl (sqL eL3), fun U nU => ?_⟩
        have sU := same_upd nU (o := .lst (nts (lefts js T)))
        have eU : (upd H3 U (.lst (nts (lefts js T)))) U = some (.lst ((kept js c (n + 1)).map V.int)) := by
          rw [upd_same, eT]
          show _ = some (HO.lst ((IL (lefts js (c * n))).map V.int))
          rw [IL_v]
        have nLU : L ≠ U := ne_of_none eL3 nU
        have s4 := s3.trans sU
        have eL4 := sU _ _ eL3
        generalize upd H3 U (.lst (nts (lefts js T))) = H4 at eU s4 eL4 ⊢
        refine ⟨_, rfl, _, rfl, _, rfl, a, L, js, T, _, rfl, hj.same s4, hok, hjl, eL4, lefts_len js T, fun H5 b5 eL5 => ?_⟩
        have s5 := same_bl s4 b5 nL
        refine ⟨_, rfl, _, 0, rfl, rfl, _, rfl, ?_⟩
        cases hm : miss js T (lefts js T) with
        | some x =>
          refine iteTq (decide_eq_true (by show (0 : Int) ≤ (x : Nat); omega)) ⟨_, rfl, _, rfl, by show 2 ≤ sizeLine; decide, fun U nU => ?_⟩
          exact q _ _ (some (x, T)) (s5.trans (same_upd nU)) ⟨U, rfl, upd_same⟩ ⟨hm, nm⟩
        | none =>
          refine iteFq (decide_eq_false (by show ¬ (0 : Int) ≤ -1; decide)) ⟨_, rfl, L, _, rfl, eL5, by rw [arr_len (lefts_len js T)]; exact hjl, fun H6 b6 eL6 => ?_⟩
          exact ⟨n + 1, ⟨_, _, _, U, rfl, nLU, b6 _ _ nLU.symm (b5 _ _ nLU.symm eU)⟩, same_bl s5 b6 nL, eL6, nm.succ hm, by rw [Nat.mul_succ, ← eT]; omega, by rw [Nat.mul_succ, ← eT]; omega, fun k hk => by
            by_cases e : k + 1 = n
            · rw [e]
              intro z
              apply he
              cases n with
              | zero => omega
              | succ n =>
                obtain rfl : k = n := by omega
                show IL (lefts js (c * k)) = _
                rw [z, eT]
            · exact ne k (by omega)⟩
      · obtain ⟨b1, b2⟩ := am2 h0
        refine iteFq (decide_eq_false (fun z => h0 (by injection z with z; exact_mod_cast z))) ?_
        refine ⟨_, rfl, _, rfl, _, rfl, a, L, js, T, _, rfl, hj.same s3, hok, hjl, eL3, lefts_len js T, fun H5 b5 eL5 => ?_⟩
        have s5 := same_bl s3 b5 nL
        refine ⟨_, rfl, _, 0, rfl, rfl, _, rfl, ?_⟩
        cases hm : miss js T (lefts js T) with
        | some x =>
          refine iteTq (decide_eq_true (by show (0 : Int) ≤ (x : Nat); omega)) ⟨_, rfl, _, rfl, by show 2 ≤ sizeLine; decide, fun U nU => ?_⟩
          exact q _ _ (some (x, T)) (s5.trans (same_upd nU)) ⟨U, rfl, upd_same⟩ ⟨hm, nm⟩
        | none =>
          refine iteFq (decide_eq_false (by show ¬ (0 : Int) ≤ -1; decide)) ⟨_, rfl, L, _, rfl, eL5, by rw [arr_len (lefts_len js T)]; exact hjl, fun H6 b6 eL6 => ?_⟩
          exact ⟨n, ⟨_, _, _, Kp, rfl, nLp, b6 _ _ nLp.symm (b5 _ _ nLp.symm eK)⟩, same_bl s5 b6 nL, eL6, nm.succ hm, b1, b2, ne⟩
    · rintro σ H3 ⟨n, _, s3, eL3, nm, t1, t2, ne⟩
      have hn : n ≤ (js.map (·.r)).sum + 1 := few per ne (nm.mono (by
        cases n with
        | zero => exact Nat.zero_le _
        | succ n => rw [Nat.add_sub_cancel]; rw [Nat.mul_succ] at t2; omega))
      have := Nat.mul_le_mul_left c hn
      omega
end
end K7

set_option Elab.async false
set_option linter.all false
set_option maxRecDepth 100000
set_option maxHeartbeats 4000000
namespace K7
open PySem PySem.Spec PyProof.Rows L2 GX NdefX
/-! ### _law_ends, _law_refusal -/
def spLEnds : Sp := fun vs H Q _ => ∃ (a : Addr) (js : List Job) (pl many : Nat) (j : Job), vs = [.ref a, .int (pl : Nat), .int (many : Nat)] ∧ JobsT H a js ∧ (∀ j ∈ js, JOk j) ∧ js.length ≤ 1000 ∧ js[pl]? = some j ∧ j.p * (many + 1) ≤ 1100 ∧ ∀ T H' r, Same H H' → H' T = some (.tup (vInts r)) → IsEnds js pl many r → Q (.ref T) H'
/-- what job_ends says of the jobs at a place, how many: a text, empty if it is well -/
def toldE (pl : Int) : Chk → Str
  | .num => "jobs"
  | .many => "5"
  | .ok js => if 0 ≤ pl ∧ pl < js.length then "" else "place"
def spRefusal : Sp := fun vs H Q _ => ∃ x j, ∃ pl : Int, vs = [x, .int pl] ∧ JbAt H x j ∧ ∀ H', Same H H' → Q (.str (toldE pl (chk j))) H'
section
variable {P : Program} {w : World} {K : PySem.W.Frag} {mg : Str → Option Value} {base : Heap}
theorem ok_refusal {k : Nat} (D : Pr P K mg) : FnOk P w K mg base CX0 (k + 5) D._law_refusal.f D._law_refusal.fd ["jobs", "place"] spRefusal := by
  have G_job_ends : FnOk P w K mg base (CX P w) (k + 4) D.job_ends.f D.job_ends.fd ["jobs", "place", "many"] (spEnds D.BadNumber.C D.TooMany.C) := ok_ends D
  refine D._law_refusal.F.ok sc__law_refusal (fun vs H Q E h => ?_) (fun cdv A outer s H vs Q E hr h => ?_)
  · obtain ⟨x, j, pl, rfl, _⟩ := h
    rfl
  · obtain ⟨x, j, pl, rfl, hj, q⟩ := h
    refine ⟨_, (pss_cons (ps_set (i := 2) sc__law_refusal.nd rfl (.inl rfl) pe_str)
      (pss_cons (ps_try_manyA rfl rfl sc__law_refusal.nd takes0 (fun W pn xe tk _ => (pss_one (ps_expr (pe_callS G_job_ends hr (by rfl) D.job_ends.g D.job_ends.F.kp D.job_ends.b (fun σ => passAt tk σ) (pa_cons (pv 0) (pa_cons (pv 1) (pa_cons pe_int pa_nil)))))))
        (HdsA.named (i := 3) (c := .ref D.BadNumber.C) ⟨by rfl, by decide, .inl D.BadNumber.g⟩ rfl rfl (fun a oe cls d pn hz hv => (pss_one (ps_set (i := 2) sc__law_refusal.nd rfl (.inl rfl) (pe_xf D.BadNumber.X (D.BadNumber.nf _ (by simp)) hz hv (pv 3)))))
        (HdsA.named (i := 3) (c := .ref D.TooMany.C) ⟨by rfl, by decide, .inl D.TooMany.g⟩ rfl rfl (fun a oe cls d pn hz hv => (pss_one (ps_set (i := 2) sc__law_refusal.nd rfl (.inl rfl) (pe_callTy call_str_int (by rfl) D.B.str (by decide +kernel) (pa_cons (pe_xf D.TooMany.X (D.TooMany.nf _ (by simp)) hz hv (pv 3)) pa_nil)))))
        HdsA.nil)))
      (pss_one (ps_ret (pv 2))))), ?_⟩
    refine ⟨x, rfl, .int pl, rfl, x, j, pl, 1, rfl, hj, ?_⟩
    cases hc : chk j with
    | num => rw [hc] at q; exact fun d H' s' e => ⟨true, D.x_BadNumber_BadNumber, fun _ a na => ⟨.ref a, rfl, rfl, rfl, d, _, .str "jobs", rfl, e, rfl, .str "jobs", rfl, q H' s'⟩, fun z => Bool.noConfusion z⟩
    | many => rw [hc] at q; exact fun d H' s' e => ⟨false, D.x_TooMany_BadNumber, fun z => Bool.noConfusion z, fun _ => ⟨true, D.x_TooMany_TooMany, fun _ a na => ⟨.ref a, rfl, rfl, rfl, d, _, .int 5, rfl, e, rfl, 5, rfl, by decide, .str "5", rfl, q H' s'⟩, fun z => Bool.noConfusion z⟩⟩
    | ok js =>
      rw [hc] at q
      rw [Chkd]
      by_cases hp : 0 ≤ pl ∧ pl < js.length
      · rw [toldE, if_pos hp] at q
        rw [if_pos hp, if_pos (by decide)]
        exact fun T H' r s' e _ => ⟨.str "", rfl, q H' s'⟩
      · rw [toldE, if_neg hp] at q
        rw [if_neg hp]
        exact fun d H' s' e => ⟨true, D.x_BadNumber_BadNumber, fun _ a na => ⟨.ref a, rfl, rfl, rfl, d, _, .str "place", rfl, e, rfl, .str "place", rfl, q H' s'⟩, fun z => Bool.noConfusion z⟩
theorem ok_lends {k : Nat} (D : Pr P K mg) : FnOk P w K mg base CX0 (k + 2) D._law_ends.f D._law_ends.fd ["jobs", "place", "many"] spLEnds := by
  have G__law_come : FnOk P w K mg base CX0 (k + 1) D._law_come.f D._law_come.fd ["jobs", "left", "tick"] spCome := ok_come D
  have G__law_run : FnOk P w K mg base CX0 (k + 1) D._law_run.f D._law_run.fd ["left"] spRun := ok_run D
  refine D._law_ends.F.ok sc__law_ends (fun vs H Q E h => ?_) (fun cdv A outer s H vs Q E hr h => ?_)
  · obtain ⟨a, js, pl, many, j, rfl, _⟩ := h
    rfl
  · obtain ⟨a, js, pl, many, j, rfl, hj, hok, hjl, hjp, hb, q⟩ := h
    obtain ⟨ts, ha, pt⟩ := id hj
    have lts := jt_len pt
    have jk := hok j (List.mem_of_getElem? hjp)
    have hpl : pl < js.length := (List.getElem?_eq_some_iff.mp hjp).1
    obtain ⟨j', b, hj', hbx, hbt⟩ := jobs_got pt (List.getElem?_eq_getElem (show pl < ts.length by omega))
    have hbi : ts[pl]? = some (.ref b) := by rw [List.getElem?_eq_getElem (show pl < ts.length by omega), hbx]
    rw [hjp] at hj'
    cases hj'
    have ej := jobAt_get hjp
    have hp1 := jk.p1
    have hmn : many + 1 ≤ 1100 := Nat.le_trans (Nat.le_mul_of_pos_left _ hp1) hb
    refine ⟨_, (pss_cons (ps_setLc (i := 3) (own := [("job", 4)]) (g := (gName 4)) (tt := tYes) rfl sc__law_ends.nd rfl rfl (sw_true rfl rfl rfl (by decide +kernel)) (pi_tup (pv 0)) (blkOk_by (own := [("job", 4)]) (N := n__law_ends) (sc := defScope s__law_ends) (by decide +kernel)) (fun _ _ _ _ _ => (pg_name (i := 4) sc__law_ends.nd rfl (.inl rfl))) (fun _ _ _ _ _ => pts_nil) (fun _ _ _ _ _ => pe_int))
      (pss_cons (ps_set (i := 5) sc__law_ends.nd rfl (.inl rfl) (pe_lst pa_nil))
      (pss_cons (ps_for PassesOwn.never rfl (pi_range1 (by rfl) D.B.range (pa_cons pe_int pa_nil)) (pg_name (i := 6) sc__law_ends.nd rfl (.inl rfl)) (pss_cons (ps_if (PW.pt (pw_or (pt_cmpR op_eq (pe_callB call_len (by rfl) D.B.len PySem.boot_len (pa_cons (pv 5) pa_nil)) (pv 2) (nomark _)) (pw_or1 (pt_cmpR op_ge (pe_call G__law_come hr (by rfl) D._law_come.g D._law_come.F.kp D._law_come.b .nil pass0 (pa_cons (pv 0) (pa_cons (pv 3) (pa_cons (pv 6) pa_nil)))) pe_int (nomark _))))) (pss_one (ps_ret (pe_callTy call_tuple_of (by rfl) D.B.tuple (by decide +kernel) (pa_cons (pv 5) pa_nil)))) pss_nil) (pss_one (ps_if (PW.pt (pw_and (pt_cmpR op_eq (pe_call G__law_run hr (by rfl) D._law_run.g D._law_run.F.kp D._law_run.b .nil pass0 (pa_cons (pv 3) pa_nil)) (pv 1) (nomark _)) (pw_and1 (pt_cmpR op_eq (pe_ix (r := rIxL K) ix_list (pv 3) (pv 1) (fun _ _ => rfl)) pe_int (nomark _))))) (pss_one (ps_expr (pe_bm PySem.F.plainAttrs_list PySem.F.slot_list_append PySem.F.type_list_append mt_append (pv 5) (pa_cons (pe_op op_sub (pe_op op_sub (pe_op (r := rAddN) op_AddN (pv 6) pe_int) (pe_ix (r := rIxT K) ix_tup (pe_ix (r := rIxT K) ix_tup (pv 0) (pv 1) (fun _ _ => rfl)) pe_int (fun _ _ => rfl))) (pe_op (r := rMultN) op_MultN (pe_callB call_len (by rfl) D.B.len PySem.boot_len (pa_cons (pv 5) pa_nil)) (pe_ix (r := rIxT K) ix_tup (pe_ix (r := rIxT K) ix_tup (pv 0) (pv 1) (fun _ _ => rfl)) pe_int (fun _ _ => rfl)))) pa_nil)))) pss_nil))))
      (pss_one (ps_ret (pe_callTy call_tuple_of (by rfl) D.B.tuple (by decide +kernel) (pa_cons (pv 5) pa_nil))))))), ?_⟩
    refine ⟨.ref a, rfl, a, rfl, ⟨_, sqT ha⟩, lcTup (fun i H y => y = V.int 0) (fun i H H' x s h => h) (fun D i H x us ys e _ h => h) ha (by omega) (fun Dl i y H2 Qk Qn hy s2 nDl eDl hk => ⟨rfl, iteT (B := Qn H2) (hk _ H2 rfl (Same.refl _))⟩) (fun L H1 us nL s1 eL pu => ?_)⟩
    rw [lts] at pu
    obtain rfl := zeros_of pu
    refine ⟨by decide, fun R nR => ?_⟩
    have nRH := s1.free nR
    have nLR : L ≠ R := ne_of_none eL nR
    have sR := same_upd nR (o := .lst [])
    refine ⟨1100, rfl, by decide, by decide, forRg (D := { nx := _, rt := Q }) (n := 1100) (fun T σ H' => (∃ c4 c6, σ = [some (.ref a), some (.int (pl : Nat)), some (.int (many : Nat)), some (.ref L), c4, some (.ref R), c6]) ∧ Same H H' ∧ H' L = some (.lst (nts (lefts js T))) ∧ H' R = some (.lst (vInts (ends js pl T))) ∧ NoM js T ∧ (∀ t, t < T → (ends js pl t).length < many) ∧ (ends js pl T).length ≤ many)
      ⟨⟨_, _, rfl⟩, s1.trans sR, sR _ _ eL, upd_same, fun t h => by omega, fun t h => by omega, Nat.zero_le _⟩ ?_ ?_⟩
    · rintro T σ H2 hT ⟨⟨c4, c6, rfl⟩, s2, eL2, eR2, nm, few, le⟩
      have lenE : (vInts (ends js pl T)).length = (ends js pl T).length := List.length_map _
      refine ⟨.ref R, rfl, .ref R, (ends js pl T).length, rfl, .inl ⟨_, sqL eR2, lenE.symm⟩, _, rfl, rfl, _, rfl, ?_⟩
      by_cases hl : (ends js pl T).length = many
      · refine iteTq (decide_eq_true (by rw [hl])) (iteT ⟨.ref R, rfl, R, _, rfl, .inl ⟨sqL eR2, fun l nl => q l _ _ (s2.trans (same_upd nl)) upd_same ⟨T, nm, few, .inl (by omega), rfl⟩⟩⟩)
      refine iteFq (decide_eq_false (fun z => hl (by injection z with z; exact_mod_cast z))) ?_
      refine ⟨_, rfl, _, rfl, _, rfl, a, L, js, T, _, rfl, hj.same s2, hok, hjl, eL2, lefts_len js T, fun H3 b3 eL3 => ?_⟩
      have s3 := same_bl s2 b3 nL
      have eR3 := b3 _ _ nLR.symm eR2
      refine ⟨_, 0, rfl, rfl, _, rfl, ?_⟩
      cases hm : miss js T (lefts js T) with
      | some x =>
        refine iteTq (decide_eq_true (by show (0 : Int) ≤ (x : Nat); omega)) ⟨.ref R, rfl, R, _, rfl, .inl ⟨sqL eR3, fun l nl => q l _ _ (s3.trans (same_upd nl)) upd_same ⟨T, nm, few, .inr (by rw [hm]; exact fun z => by cases z), rfl⟩⟩⟩
      | none =>
        refine iteFq (decide_eq_false (by show ¬ (0 : Int) ≤ -1; decide)) ⟨_, rfl, L, _, rfl, eL3, by rw [arr_len (lefts_len js T)]; exact hjl, fun H4 b4 eL4 => ?_⟩
        have s4 := same_bl s3 b4 nL
        have eR4 := b4 _ _ nLR.symm eR3
        have few1 : ∀ t, t < T + 1 → (ends js pl t).length < many := fun t ht => by
          by_cases e : t = T
          · rw [e]; omega
          · exact few t (by omega)
        have le1 : (ends js pl (T + 1)).length ≤ many := by have := ends_len1 js pl T; omega
        have un : ends js pl (T + 1) = if whoR js T = some pl ∧ (lefts js (T + 1))[pl]? = some 0 then ends js pl T ++ [((T + 1 : Nat) : Int) - ((jobAt js pl).o : Nat) - (((ends js pl T).length : Nat) : Int) * ((jobAt js pl).p : Nat)] else ends js pl T := rfl
        refine ⟨_, rfl, rfl, _, rfl, ?_⟩
        by_cases e : whoR js T = some pl
        · obtain ⟨y, hy⟩ : ∃ y, (lefts js (T + 1))[pl]? = some y := ⟨_, List.getElem?_eq_getElem (by rw [lefts_len]; exact hpl)⟩
          refine iteTq (whoV_eq.trans (decide_eq_true e)) ⟨_, rfl, _, rfl, L, _, pl, _, rfl, rfl, sqL eL4, atI_nat (nts_at hy), rfl, _, rfl, ?_⟩
          by_cases y0 : y = 0
          · subst y0
            have ha4 := s4 _ _ ha
            have hb4 := s4 _ _ hbt
            refine iteTq rfl ⟨.ref R, rfl, .inl ⟨rfl, _, sqL eR4⟩, _, rfl, T, 1, rfl, rfl, _, rfl, _, rfl, a, ts, pl, .ref b, rfl, rfl, sqT ha4, atI_nat hbi, b, _, 2, _, rfl, rfl, sqT hb4, atI_nat (j := 2) rfl, _, _, rfl, rfl, .ref R, rfl, .ref R, (ends js pl T).length, rfl, .inl ⟨_, sqL eR4, lenE.symm⟩, _, rfl, _, rfl, a, ts, pl, .ref b, rfl, rfl, sqT ha4, atI_nat hbi, b, _, 1, _, rfl, rfl, sqT hb4, atI_nat (j := 1) rfl, (ends js pl T).length, j.p, rfl, rfl, by omega, _, _, rfl, rfl, R, _, _, rfl, rfl, eR4, by rw [lenE, sizeLine_eq]; omega, ?_⟩
            have e1 : ends js pl (T + 1) = ends js pl T ++ [((T + 1 : Nat) : Int) - (j.o : Nat) - (((ends js pl T).length * j.p : Nat) : Int)] := by
              rw [un, if_pos ⟨e, hy⟩, ej, Int.natCast_mul]
            refine ⟨⟨_, _, rfl⟩, fun b o hb => by rw [upd_ne (ne_of_none hb nRH)]; exact s4 _ _ hb, by rw [upd_ne nLR]; exact eL4, ?_, nm.succ hm, few1, le1⟩
            rw [upd_same, e1]
            unfold vInts
            rw [List.map_append]
            rfl
          · refine iteFq (decide_eq_false (fun z => y0 (by injection z with z; exact_mod_cast z))) ?_
            have e1 : ends js pl (T + 1) = ends js pl T := by rw [un, if_neg (fun z => y0 (by have := z.2; rw [hy] at this; exact Option.some.inj this))]
            exact ⟨⟨_, _, rfl⟩, s4, eL4, by rw [e1]; exact eR4, nm.succ hm, few1, le1⟩
        · refine iteFq (whoV_eq.trans (decide_eq_false e)) ?_
          have e1 : ends js pl (T + 1) = ends js pl T := by rw [un, if_neg (fun z => e z.1)]
          exact ⟨⟨_, _, rfl⟩, s4, eL4, by rw [e1]; exact eR4, nm.succ hm, few1, le1⟩
    · rintro σ H2 ⟨⟨c4, c6, rfl⟩, s2, eL2, eR2, nm, few, le⟩
      exact ⟨.ref R, rfl, R, _, rfl, .inl ⟨sqL eR2, fun l nl => q l _ _ (s2.trans (same_upd nl)) upd_same ⟨1100, nm, few, .inl (ends_many hjp jk nm hb), rfl⟩⟩⟩
end
end K7

set_option Elab.async false
set_option linter.all false
set_option maxRecDepth 100000
set_option maxHeartbeats 4000000
namespace K7
open PySem PySem.Spec PyProof.Rows L2 GX NdefX
/-! ### _law_refusals_fit -/
def itsOf (js : List Job) : List (Option (List Int)) := js.map fun j => some (ji j)
theorem its_at {H : Hp} {ts : List V} {js : List Job} (p : TupsT H ts (js.map jv)) : Paired (ItAt H) ts (itsOf js) := by
  unfold itsOf
  refine paired_map (g := fun j => some (ji j)) ?_
  have key : ∀ {ts : List V} (js : List Job), TupsT H ts (js.map jv) → Paired (fun x j => ItAt H x (some (ji j))) ts js := by
    intro ts js
    induction js generalizing ts with
    | nil => intro p; cases p; exact .nil
    | cons j js ih =>
      intro p
      cases p with
      | cons f r =>
        obtain ⟨b, e, h⟩ := f
        exact .cons ⟨b, e, .inr h, by show 3 ≤ 1000; decide⟩ (ih r)
  exact key js p
theorem jb_of {H : Hp} {a : Addr} {js : List Job} (h : JobsT H a js) (hl : js.length ≤ 1000) : JbAt H (.ref a) (some (itsOf js)) := by
  obtain ⟨ts, e, p⟩ := h
  exact ⟨a, ts, rfl, .inr e, its_at p, by unfold itsOf; rw [List.length_map]; exact hl⟩
theorem chk_good {js : List Job} (hok : ∀ j ∈ js, JOk j) (hl : js.length ≤ 5) : chk (some (itsOf js)) = .ok js := by
  show (if 5 < (itsOf js).length then Chk.many else if (itsOf js).all goodI = true then .ok ((itsOf js).map toJ) else .num) = .ok js
  have e1 : (itsOf js).length = js.length := by unfold itsOf; rw [List.length_map]
  have e2 : (itsOf js).all goodI = true := by
    unfold itsOf
    rw [List.all_map, List.all_eq_true]
    exact fun j hj => good_ji (hok j hj)
  have e3 : (itsOf js).map toJ = js := by
    unfold itsOf
    rw [List.map_map]
    have : (toJ ∘ fun j => some (ji j)) = id := by funext j; exact toJ_ji j
    rw [this, List.map_id]
  rw [if_neg (by omega), if_pos e2, e3]
theorem chk_bad {its : List (Option (List Int))} {it : Option (List Int)} (h : it ∈ its) (hb : goodI it = false) (hl : its.length ≤ 5) : chk (some its) = .num := by
  show (if 5 < its.length then Chk.many else if its.all goodI = true then .ok (its.map toJ) else .num) = .num
  rw [if_neg (by omega), if_neg fun z => by rw [List.all_eq_true.mp z it h] at hb; cases hb]
theorem JobsT.b {N a : Addr} {H H' : Hp} {js : List Job} (n : NumsAt H N) (s : SameB N H H') (h : JobsT H a js) : JobsT H' a js := by
  obtain ⟨ts, e, p⟩ := h
  obtain ⟨l, en, _⟩ := id n
  exact ⟨ts, s _ _ (fun z => by rw [z, en] at e; cases e) e, tupsB n s p⟩
def spRfit : Sp := fun vs H Q _ => ∃ (N a : Addr) (js : List Job), vs = [.ref N, .ref a] ∧ NumsAt H N ∧ JobsT H a js ∧ OkSet js ∧ ∀ H', SameB N H H' → NumsAt H' N → Q (.bl true) H'
theorem neS {z y : Str} (h : z = y) : (!decide (V.str z = V.str y)) = false := by
  rw [h, decide_eq_true rfl]
  rfl
theorem pe_bmK {X : Cx} {K : PySem.W.Frag} {T id : String} {name : Str} {o e : Expr} {es : List Expr} {apos cpos : Pos} {to : TE} {t : TA} {r : V → List V → Hp → VK → Prop} (hK : X.K = K) (pa : PlainAttrs T) (slot : Slot T name id) (hty : typeOf (.builtin id) = pure (.type "method_descriptor")) (hm : MtR X id r) (ho : PE X o to) (ha : PA X (e :: es) t)
    (hbase : attributeBase o name X.env (eval o X.env) = eval o X.env := by rfl)
    (hfew : ((backTo cpos (starEach (e :: es) X.env)).all (fun x => !x.1) && (backToKw cpos (keywordEach [] X.env)).all (fun x => x.1.isSome)
      && decide ((e :: es).length + ([] : List Keyword).length + (if ([] : List Keyword).isEmpty then 0 else 1) < 30)) = true := by rfl)
    (hline : (apos.endLine == cpos.line) = true := by rfl) (hs : starEach (e :: es) X.env = (false, eval e X.env) :: starEach es X.env := by rfl) (hplain : (backTo cpos (starEach es X.env)).any (·.1) = false := by rfl) :
    PE X (.Call (.Attribute o name apos) (e :: es) [] cpos) (tBM K T r to t) := by
  subst hK
  exact pe_bm pa slot hty hm ho ha hbase hfew hline hs hplain
def wordsL : List Str := ["ticks", "many", "many"]
section
variable {P : Program} {w : World} {K : PySem.W.Frag} {mg : Str → Option Value} {base : Heap}
theorem rf_words {k : Nat} (D : Pr P K mg) (f : Addr) (cdv : Value) (A : Around) (outer : List Env) (s : Shared) (H0 : Hp) (Q : VK) (E : XK) (hr : Room (k + 5) (A.deeper (envOfC "_law_refusals_fit" (defScope s__law_refusals_fit) s.heap.objs.size f cdv))) :
    ∃ t, PSs (cxOf CX0 P w K mg base n__law_refusals_fit "_law_refusals_fit" (defScope s__law_refusals_fit) f cdv A outer s H0 E).nox ((defBody s__law_refusals_fit).drop 10) t ∧ ∀ (c3 c4 c5 c6 c7 : Option V) (N a : Addr) (r : Nat) (js : List Job) (H : Hp), JobsT H a js → OkSet js → r < js.length → (∀ H', Same H H' → Q (.bl true) H') →
      t { nx := fun _ H' => Q V.non H', rt := Q } [some (.ref N), some (.ref a), some (.int (r : Nat)), c3, c4, c5, c6, c7] H := by
  have G_who_runs : FnOk P w K mg base (CX P w) (k + 4) D.who_runs.f D.who_runs.fd ["jobs", "ticks"] (spWho D.BadNumber.C D.TooMany.C) := ok_who D
  have G_job_ends : FnOk P w K mg base (CX P w) (k + 4) D.job_ends.f D.job_ends.fd ["jobs", "place", "many"] (spEnds D.BadNumber.C D.TooMany.C) := ok_ends D
  refine ⟨_, (pss_cons (ps_set (i := 6) sc__law_refusals_fit.nd rfl (.inl rfl) (pe_lst pa_nil))
      (pss_cons (ps_for PassesOwn.never rfl (pi_range1 (by rfl) D.B.range (pa_cons pe_int pa_nil)) (pg_name (i := 7) sc__law_refusals_fit.nd rfl (.inl rfl)) (pss_one (ps_try_manyA rfl rfl sc__law_refusals_fit.nd takes0 (fun W pn xe tk _ => (pss_one (ps_if (pt_cmpR op_eq (pv 7) pe_int (nomark _)) (pss_one (ps_expr (pe_callS G_who_runs (hr.mono (by omega)) (by rfl) D.who_runs.g D.who_runs.F.kp D.who_runs.b (fun σ => passAt tk σ) (pa_cons (pv 1) (pa_cons (pe_un un_neg pe_int) pa_nil))))) (pss_one (ps_expr (pe_callS G_job_ends (hr.mono (by omega)) (by rfl) D.job_ends.g D.job_ends.F.kp D.job_ends.b (fun σ => passAt tk σ) (pa_cons (pv 1) (pa_cons (pv 2) (pa_cons (pe_ix (r := rIxL K) ix_list (pe_lst (pa_cons (pe_un un_neg pe_int) (pa_cons pe_int pa_nil))) (pe_op op_sub (pv 7) pe_int) (fun _ _ => rfl)) pa_nil)))))))))
        (HdsA.named (i := 5) (c := .ref D.BadNumber.C) ⟨by rfl, by decide, .inl D.BadNumber.g⟩ rfl rfl (fun a oe cls d pn hz hv => (pss_one (ps_expr (pe_bmK (K := K) rfl PySem.F.plainAttrs_list PySem.F.slot_list_append PySem.F.type_list_append mt_append (pv 6) (pa_cons (pe_xf D.BadNumber.X (D.BadNumber.nf _ (by simp)) hz hv (pv 5)) pa_nil)))))
        HdsA.nil))))
      (pss_one (ps_ret (pe_cmpR (op_eqD hr.units) (pv 6) (pe_lst (pa_cons pe_str (pa_cons pe_str (pa_cons pe_str pa_nil)))) (nomark _)))))), ?_⟩
  intro c3 c4 c5 c6 c7 N a r js H jt oks hr q
  refine ⟨by decide, fun R nR => ?_⟩
  have sR := same_upd nR (o := .lst [])
  have jtR := jt.same sR
  refine ⟨3, rfl, by decide, by decide, ?_⟩
  refine ⟨fun i m σ H' => m = 3 - i ∧ i ≤ 3 ∧ (∃ c5 c7, σ = [some (.ref N), some (.ref a), some (.int (r : Nat)), c3, c4, c5, some (.ref R), c7]) ∧ Same H H' ∧ JobsT H' a js ∧ H' R = some (.lst ((wordsL.take i).map V.str)), ⟨3, rfl, by decide, ⟨_, _, rfl⟩, sR, jtR, upd_same⟩, ?_⟩
  rintro i m σ H2 ⟨rfl, hi, ⟨c5, c7, rfl⟩, s0, jt2, eR⟩
  by_cases hlt : i < 3
  · refine .inr ⟨hlt, fun σ H' => (∃ c5 c7, σ = [some (.ref N), some (.ref a), some (.int (r : Nat)), c3, c4, c5, some (.ref R), c7]) ∧ Same H H' ∧ JobsT H' a js ∧ H' R = some (.lst ((wordsL.take (i + 1)).map V.str)), fun σ' H' p => ⟨3 - (i + 1), by omega, rfl, hlt, p⟩, fun x H' y => ?_⟩
    obtain ⟨ey, rfl⟩ := y
    obtain rfl : H2 = H' := ey.symm
    rw [Int.zero_add]
    have hl5 := oks.2.1
    have jb := jb_of jt2 (by omega)
    have cg := chk_good oks.ok hl5
    -- what the handler does
    have app : ∀ (z : Str), wordsL.take (i + 1) = wordsL.take i ++ [z] → ∀ (d : Addr) (H' : Hp), Same H2 H' → Same H (upd H' R (.lst ((wordsL.take i).map V.str ++ [.str z]))) ∧ JobsT (upd H' R (.lst ((wordsL.take i).map V.str ++ [.str z]))) a js ∧ (upd H' R (.lst ((wordsL.take i).map V.str ++ [.str z]))) R = some (.lst ((wordsL.take (i + 1)).map V.str)) := by
      intro z ez d H' s'
      obtain ⟨ts, ha, pt⟩ := jt2.same s'
      have eR' := s' _ _ eR
      refine ⟨fun b o e => by rw [upd_ne (ne_of_none e nR)]; exact s' _ _ (s0 _ _ e), ⟨ts, by rw [upd_ne (ne_of ha eR' (by intro q; cases q))]; exact ha, tups_upd eR' pt⟩, ?_⟩
      rw [upd_same, ez, List.map_append]
      rfl
    have hw : ((wordsL.take i).map V.str).length < sizeLine := by
      rw [List.length_map, List.length_take, sizeLine_eq]
      have : min i wordsL.length ≤ i := Nat.min_le_left _ _
      omega
    refine ⟨.int i, rfl, rfl, _, rfl, ?_⟩
    by_cases h0 : i = 0
    · subst h0
      refine iteTq rfl ⟨.ref a, rfl, 1, rfl, .ref a, some (itsOf js), -1, rfl, jb, ?_⟩
      rw [cg, Chkd, if_neg (by decide)]
      intro d H' s' e
      refine ⟨true, D.x_BadNumber_BadNumber, fun _ x na => ?_, fun z => Bool.noConfusion z⟩
      obtain ⟨a0, a1, a2⟩ := app "ticks" rfl d H' s'
      exact ⟨.ref R, rfl, .inl ⟨rfl, _, sqL (s' _ _ eR)⟩, .ref x, rfl, rfl, rfl, d, _, .str "ticks", rfl, e, rfl, R, _, _, rfl, rfl, s' _ _ eR, hw, ⟨_, _, rfl⟩, a0, a1, a2⟩
    · refine iteFq (decide_eq_false (fun z => h0 (by injection z with z; exact_mod_cast z))) ⟨.ref a, rfl, .int r, rfl, 1, rfl, by decide, fun L nL => ⟨.int i, rfl, _, _, rfl, rfl, ?_⟩⟩
      have sL := same_upd nL (o := .lst [.int (-1), .int 201])
      have v : ∃ w : Int, atI ([.int (-1), .int 201] : List V) ((i : Nat) - 1 : Int) = some (.int w) ∧ ¬ (0 ≤ w ∧ w ≤ 200) := by
        have : i = 1 ∨ i = 2 := by omega
        rcases this with rfl | rfl
        · exact ⟨-1, rfl, by decide⟩
        · exact ⟨201, rfl, by decide⟩
      obtain ⟨w, hw1, hw2⟩ := v
      refine ⟨L, _, _, .int w, rfl, rfl, sqL upd_same, hw1, .ref a, some (itsOf js), (r : Nat), w, rfl, jb.same sL, ?_⟩
      rw [cg, Chkd, if_pos (by omega), if_neg hw2]
      intro d H' s' e
      have s2' := sL.trans s'
      have ez : wordsL.take (i + 1) = wordsL.take i ++ [("many" : Str)] := by
        have : i = 1 ∨ i = 2 := by omega
        rcases this with rfl | rfl <;> rfl
      refine ⟨true, D.x_BadNumber_BadNumber, fun _ x na => ?_, fun z => Bool.noConfusion z⟩
      obtain ⟨a0, a1, a2⟩ := app "many" ez d H' s2'
      exact ⟨.ref R, rfl, .inl ⟨rfl, _, sqL (s2' _ _ eR)⟩, .ref x, rfl, rfl, rfl, d, _, .str "many", rfl, e, rfl, R, _, _, rfl, rfl, s2' _ _ eR, hw, ⟨_, _, rfl⟩, a0, a1, a2⟩
  · obtain rfl : i = 3 := by omega
    refine .inl ⟨Nat.le_refl _, .ref R, rfl, by decide, fun B nB => ⟨.list [.str "ticks", .str "many", .str "many"], .list [.str "ticks", .str "many", .str "many"], ?_, ?_, by decide +kernel, by decide +kernel, ?_⟩⟩
    · exact .lst (sqL (same_upd nB _ _ eR)) (.cons (.str _) (.cons (.str _) (.cons (.str _) .nil)))
    · exact .lst (sqL upd_same) (.cons (.str _) (.cons (.str _) (.cons (.str _) .nil)))
    · have : PyData.eqv (.list [.str "ticks", .str "many", .str "many"]) (.list [.str "ticks", .str "many", .str "many"]) = true := by decide +kernel
      rw [this]
      exact q _ (s0.trans (same_upd nB))
end
end K7

set_option Elab.async false
set_option linter.all false
set_option maxRecDepth 100000
set_option maxHeartbeats 4000000
namespace K7
open PySem PySem.Spec PyProof.Rows L2 GX NdefX
theorem its_len (js : List Job) : (itsOf js).length = js.length := by unfold itsOf; rw [List.length_map]
section
variable {P : Program} {w : World} {K : PySem.W.Frag} {mg : Str → Option Value} {base : Heap}
theorem rf_tail {k : Nat} (D : Pr P K mg) (f : Addr) (cdv : Value) (A : Around) (outer : List Env) (s : Shared) (H0 : Hp) (Q : VK) (E : XK) (hr : Room (k + 5) (A.deeper (envOfC "_law_refusals_fit" (defScope s__law_refusals_fit) s.heap.objs.size f cdv))) :
    ∃ t, PSs (cxOf CX0 P w K mg base n__law_refusals_fit "_law_refusals_fit" (defScope s__law_refusals_fit) f cdv A outer s H0 E).nox ((defBody s__law_refusals_fit).drop 4) t ∧ ∀ (c3 c4 c5 c6 c7 : Option V) (N a : Addr) (r : Nat) (js : List Job) (H : Hp), JobsT H a js → OkSet js → r < js.length → (∀ H', Same H H' → Q (.bl true) H') →
      t { nx := fun _ H' => Q V.non H', rt := Q } [some (.ref N), some (.ref a), some (.int (r : Nat)), c3, c4, c5, c6, c7] H := by
  have G_who_runs : FnOk P w K mg base (CX P w) (k + 4) D.who_runs.f D.who_runs.fd ["jobs", "ticks"] (spWho D.BadNumber.C D.TooMany.C) := ok_who D
  have G_first_miss : FnOk P w K mg base (CX P w) (k + 4) D.first_miss.f D.first_miss.fd ["jobs"] (spFirst D.BadNumber.C D.TooMany.C) := ok_first D
  have G__law_refusal : FnOk P w K mg base CX0 (k + 5) D._law_refusal.f D._law_refusal.fd ["jobs", "place"] spRefusal := ok_refusal D
  obtain ⟨tT, hT, rT⟩ := rf_words (w := w) (P := P) (base := base) D f cdv A outer s H0 Q E hr
  refine ⟨_, (pss_cons (ps_set (i := 4) sc__law_refusals_fit.nd rfl (.inl rfl) pe_str)
      (pss_cons (ps_try_manyA rfl rfl sc__law_refusals_fit.nd takes0 (fun W pn xe tk _ => (pss_one (ps_expr (pe_callS G_first_miss (hr.mono (by omega)) (by rfl) D.first_miss.g D.first_miss.F.kp D.first_miss.b (fun σ => passAt tk σ) (pa_cons (pe_op (r := rCatA K) op_catA (pe_op (r := rCatA K) op_catA (pe_slice (r := rSlA K) sl_tupA (pv 1) po_none (po_some (pv 2))) (pe_tup (pa_cons (pe_tup (pa_cons pe_int (pa_cons pe_int (pa_cons pe_int pa_nil)))) pa_nil))) (pe_slice (r := rSlA K) sl_tupA (pv 1) (po_some (pe_op (r := rAddN) op_AddN (pv 2) pe_int)) po_none)) pa_nil)))))
        (HdsA.named (i := 5) (c := .ref D.BadNumber.C) ⟨by rfl, by decide, .inl D.BadNumber.g⟩ rfl rfl (fun a oe cls d pn hz hv => (pss_one (ps_set (i := 4) sc__law_refusals_fit.nd rfl (.inl rfl) (pe_xf D.BadNumber.X (D.BadNumber.nf _ (by simp)) hz hv (pv 5)))))
        HdsA.nil))
      (pss_cons (ps_if (pt_cmpR op_ne (pv 4) pe_str (nomark _)) (pss_one (ps_ret pe_bl)) pss_nil)
      (pss_cons (ps_set (i := 4) sc__law_refusals_fit.nd rfl (.inl rfl) pe_str)
      (pss_cons (ps_try_manyA rfl rfl sc__law_refusals_fit.nd takes0 (fun W pn xe tk _ => (pss_one (ps_expr (pe_callS G_who_runs (hr.mono (by omega)) (by rfl) D.who_runs.g D.who_runs.F.kp D.who_runs.b (fun σ => passAt tk σ) (pa_cons (pe_op (r := rCatA K) op_catA (pe_op (r := rCatA K) op_catA (pe_slice (r := rSlA K) sl_tupA (pv 1) po_none (po_some (pv 2))) (pe_tup (pa_cons (pe_tup (pa_cons pe_int (pa_cons pe_int (pa_cons pe_int pa_nil)))) pa_nil))) (pe_slice (r := rSlA K) sl_tupA (pv 1) (po_some (pe_op (r := rAddN) op_AddN (pv 2) pe_int)) po_none)) (pa_cons pe_int pa_nil))))))
        (HdsA.named (i := 5) (c := .ref D.BadNumber.C) ⟨by rfl, by decide, .inl D.BadNumber.g⟩ rfl rfl (fun a oe cls d pn hz hv => (pss_one (ps_set (i := 4) sc__law_refusals_fit.nd rfl (.inl rfl) (pe_xf D.BadNumber.X (D.BadNumber.nf _ (by simp)) hz hv (pv 5)))))
        HdsA.nil))
      (pss_cons (ps_if (PW.pt (pw_or (pt_cmpR op_ne (pv 4) pe_str (nomark _)) (pw_or1 (pt_cmpR op_ne (pe_call G__law_refusal hr (by rfl) D._law_refusal.g D._law_refusal.F.kp D._law_refusal.b .nil pass0 (pa_cons (pe_op (r := rCatA K) op_catA (pe_op (r := rCatA K) op_catA (pe_slice sl_tupA (pv 1) po_none (po_some (pv 2))) (pe_tup (pa_cons (pe_tup (pa_cons pe_int (pa_cons pe_int (pa_cons pe_int pa_nil)))) pa_nil))) (pe_slice sl_tupA (pv 1) (po_some (pe_op (r := rAddN) op_AddN (pv 2) pe_int)) po_none)) (pa_cons (pv 2) pa_nil))) pe_str (nomark _))))) (pss_one (ps_ret pe_bl)) pss_nil)
      hT)))))), ?_⟩
  intro c3 c4 c5 c6 c7 N a r js H jt oks hrl q
  have hl5 := oks.2.1
  have hok := oks.ok
  obtain ⟨ts1, ha1, pt1⟩ := id jt
  refine ⟨.ref a, rfl, .int r, rfl, (r : Nat), rfl, slA ha1 fun S11 Ha1 sa1 ea1 => ?_⟩
  rw [cut_to] at ea1
  have lt1 := jt_len pt1
  refine ⟨by show 3 ≤ sizeLine; decide, fun W1 nW1 => ⟨by show 1 ≤ sizeLine; decide, fun U1 nU1 => ?_⟩⟩
  have sW1 := same_upd nW1 (o := .tup [.int 1, .int 3, .int 3])
  have sV1 := same_upd nU1 (o := .tup [.ref W1])
  have sU1 := sW1.trans sV1
  have hx1 : ItAt (upd (upd Ha1 W1 (.tup [.int 1, .int 3, .int 3])) U1 (.tup [.ref W1])) (.ref W1) (some [1, 3, 3]) := ⟨W1, rfl, .inr (sV1 _ _ upd_same), by decide⟩
  refine catA (sU1 _ _ ea1) upd_same (by rw [List.length_take]; show min r ts1.length + 1 ≤ 1000; omega) fun S21 Hc1 sc1 ec1 => ?_
  have sac1 := sa1.trans (sU1.trans sc1)
  refine ⟨.ref a, rfl, .int r, rfl, r, 1, rfl, rfl, ((r + 1 : Nat) : Int), rfl, ?_⟩
  try delta tNoPart
  refine slA (sac1 _ _ ha1) fun S31 Hd1 sd1 ed1 => ?_
  rw [cut_from] at ed1
  refine catA (sd1 _ _ ec1) ed1 (by rw [List.length_append, List.length_take, List.length_drop]; show min r ts1.length + 1 + _ ≤ 1000; omega) fun S41 He1 se1 ee1 => ?_
  have s1 := sac1.trans (sd1.trans se1)
  have pi1 := its_at (pt1.same s1)
  have pp1 : Paired (ItAt He1) ((ts1.take r ++ [.ref W1]) ++ ts1.drop (r + 1)) (((itsOf js).take r ++ [(some [1, 3, 3])]) ++ (itsOf js).drop (r + 1)) := paired_app (paired_app (paired_take pi1 r).1 (.cons (hx1.same (sc1.trans (sd1.trans se1))) .nil)) (paired_take pi1 (r + 1)).2
  have li1 : (((itsOf js).take r ++ [(some [1, 3, 3])]) ++ (itsOf js).drop (r + 1)).length ≤ 5 := by
    rw [List.length_append, List.length_append, List.length_take, List.length_drop, List.length_singleton, its_len]
    omega
  have jb1 : JbAt He1 (.ref S41) (some (((itsOf js).take r ++ [(some [1, 3, 3])]) ++ (itsOf js).drop (r + 1))) := ⟨S41, _, rfl, .inr ee1, pp1, by omega⟩
  refine ⟨.ref S41, _, rfl, jb1, ?_⟩
  rw [chk_bad (it := some [1, 3, 3]) (by simp) (by decide) li1, Chkd]
  intro d H2 s2 e2
  refine ⟨true, D.x_BadNumber_BadNumber, fun _ x na => ⟨.ref x, rfl, rfl, rfl, d, _, .str "jobs", rfl, e2, rfl, .str "jobs", rfl, rfl, _, rfl, iteFq (neS rfl) ?_⟩, fun z => Bool.noConfusion z⟩
  have jt2 := jt.same (s1.trans s2)
  obtain ⟨ts2a, ha2a, pt2a⟩ := id jt2
  refine ⟨.ref a, rfl, .int r, rfl, (r : Nat), rfl, slA ha2a fun S12a Ha2a sa2a ea2a => ?_⟩
  rw [cut_to] at ea2a
  have lt2a := jt_len pt2a
  refine ⟨by show 3 ≤ sizeLine; decide, fun W2a nW2a => ⟨by show 1 ≤ sizeLine; decide, fun U2a nU2a => ?_⟩⟩
  have sW2a := same_upd nW2a (o := .tup [.int 13, .int 24, .int 0])
  have sV2a := same_upd nU2a (o := .tup [.ref W2a])
  have sU2a := sW2a.trans sV2a
  have hx2a : ItAt (upd (upd Ha2a W2a (.tup [.int 13, .int 24, .int 0])) U2a (.tup [.ref W2a])) (.ref W2a) (some [13, 24, 0]) := ⟨W2a, rfl, .inr (sV2a _ _ upd_same), by decide⟩
  refine catA (sU2a _ _ ea2a) upd_same (by rw [List.length_take]; show min r ts2a.length + 1 ≤ 1000; omega) fun S22a Hc2a sc2a ec2a => ?_
  have sac2a := sa2a.trans (sU2a.trans sc2a)
  refine ⟨.ref a, rfl, .int r, rfl, r, 1, rfl, rfl, ((r + 1 : Nat) : Int), rfl, ?_⟩
  try delta tNoPart
  refine slA (sac2a _ _ ha2a) fun S32a Hd2a sd2a ed2a => ?_
  rw [cut_from] at ed2a
  refine catA (sd2a _ _ ec2a) ed2a (by rw [List.length_append, List.length_take, List.length_drop]; show min r ts2a.length + 1 + _ ≤ 1000; omega) fun S42a He2a se2a ee2a => ?_
  have s2a := sac2a.trans (sd2a.trans se2a)
  have pi2a := its_at (pt2a.same s2a)
  have pp2a : Paired (ItAt He2a) ((ts2a.take r ++ [.ref W2a]) ++ ts2a.drop (r + 1)) (((itsOf js).take r ++ [(some [13, 24, 0])]) ++ (itsOf js).drop (r + 1)) := paired_app (paired_app (paired_take pi2a r).1 (.cons (hx2a.same (sc2a.trans (sd2a.trans se2a))) .nil)) (paired_take pi2a (r + 1)).2
  have li2a : (((itsOf js).take r ++ [(some [13, 24, 0])]) ++ (itsOf js).drop (r + 1)).length ≤ 5 := by
    rw [List.length_append, List.length_append, List.length_take, List.length_drop, List.length_singleton, its_len]
    omega
  have jb2a : JbAt He2a (.ref S42a) (some (((itsOf js).take r ++ [(some [13, 24, 0])]) ++ (itsOf js).drop (r + 1))) := ⟨S42a, _, rfl, .inr ee2a, pp2a, by omega⟩
  refine ⟨.ref S42a, _, 3, rfl, jb2a, ?_⟩
  rw [chk_bad (it := some [13, 24, 0]) (by simp) (by decide) li2a, Chkd]
  intro d3 H3 s3 e3
  refine ⟨true, D.x_BadNumber_BadNumber, fun _ x3 na3 => ⟨.ref x3, rfl, rfl, rfl, d3, _, .str "jobs", rfl, e3, rfl, .str "jobs", rfl, rfl, _, rfl, iteFq (neS rfl) ?_⟩, fun z => Bool.noConfusion z⟩
  have jt3 := jt2.same (s2a.trans s3)
  obtain ⟨ts3a, ha3a, pt3a⟩ := id jt3
  refine ⟨.ref a, rfl, .int r, rfl, (r : Nat), rfl, slA ha3a fun S13a Ha3a sa3a ea3a => ?_⟩
  rw [cut_to] at ea3a
  have lt3a := jt_len pt3a
  refine ⟨by show 3 ≤ sizeLine; decide, fun W3a nW3a => ⟨by show 1 ≤ sizeLine; decide, fun U3a nU3a => ?_⟩⟩
  have sW3a := same_upd nW3a (o := .tup [.int 12, .int 24, .int 23])
  have sV3a := same_upd nU3a (o := .tup [.ref W3a])
  have sU3a := sW3a.trans sV3a
  have hx3a : ItAt (upd (upd Ha3a W3a (.tup [.int 12, .int 24, .int 23])) U3a (.tup [.ref W3a])) (.ref W3a) (some [12, 24, 23]) := ⟨W3a, rfl, .inr (sV3a _ _ upd_same), by decide⟩
  refine catA (sU3a _ _ ea3a) upd_same (by rw [List.length_take]; show min r ts3a.length + 1 ≤ 1000; omega) fun S23a Hc3a sc3a ec3a => ?_
  have sac3a := sa3a.trans (sU3a.trans sc3a)
  refine ⟨.ref a, rfl, .int r, rfl, r, 1, rfl, rfl, ((r + 1 : Nat) : Int), rfl, ?_⟩
  try delta tNoPart
  refine slA (sac3a _ _ ha3a) fun S33a Hd3a sd3a ed3a => ?_
  rw [cut_from] at ed3a
  refine catA (sd3a _ _ ec3a) ed3a (by rw [List.length_append, List.length_take, List.length_drop]; show min r ts3a.length + 1 + _ ≤ 1000; omega) fun S43a He3a se3a ee3a => ?_
  have s3a := sac3a.trans (sd3a.trans se3a)
  have pi3a := its_at (pt3a.same s3a)
  have pp3a : Paired (ItAt He3a) ((ts3a.take r ++ [.ref W3a]) ++ ts3a.drop (r + 1)) (((itsOf js).take r ++ [(some [12, 24, 23])]) ++ (itsOf js).drop (r + 1)) := paired_app (paired_app (paired_take pi3a r).1 (.cons (hx3a.same (sc3a.trans (sd3a.trans se3a))) .nil)) (paired_take pi3a (r + 1)).2
  have li3a : (((itsOf js).take r ++ [(some [12, 24, 23])]) ++ (itsOf js).drop (r + 1)).length ≤ 5 := by
    rw [List.length_append, List.length_append, List.length_take, List.length_drop, List.length_singleton, its_len]
    omega
  have jb3a : JbAt He3a (.ref S43a) (some (((itsOf js).take r ++ [(some [12, 24, 23])]) ++ (itsOf js).drop (r + 1))) := ⟨S43a, _, rfl, .inr ee3a, pp3a, by omega⟩
  have cg : chk (some (((itsOf js).take r ++ [some [12, 24, 23]]) ++ (itsOf js).drop (r + 1))) = .ok ((js.take r ++ [⟨12, 24, 23⟩]) ++ js.drop (r + 1)) := by
    have e : ((itsOf js).take r ++ [some [12, 24, 23]]) ++ (itsOf js).drop (r + 1) = itsOf ((js.take r ++ [⟨12, 24, 23⟩]) ++ js.drop (r + 1)) := by
      unfold itsOf
      rw [List.map_append, List.map_append, List.map_take, List.map_drop]
      rfl
    have l : ((js.take r ++ [(⟨12, 24, 23⟩ : Job)]) ++ js.drop (r + 1)).length ≤ 5 := by rw [e, its_len] at li3a; exact li3a
    rw [e]
    refine chk_good (fun j hj => ?_) l
    rcases List.mem_append.mp hj with hj | hj
    · rcases List.mem_append.mp hj with hj | hj
      · exact hok j (List.mem_of_mem_take hj)
      · rw [List.mem_singleton.mp hj]; exact ⟨by decide, by decide, by decide, by decide, by decide⟩
    · exact hok j (List.mem_of_mem_drop hj)
  refine ⟨.int r, rfl, .ref S43a, _, (r : Nat), rfl, jb3a, fun H4 s4 => ⟨rfl, _, rfl, iteFq (neS ?_) ?_⟩⟩
  · rw [cg, toldE, if_pos]
    rw [List.length_append, List.length_append, List.length_take, List.length_drop, List.length_singleton]
    omega
  exact rT _ _ _ _ _ N a r js H4 (jt3.same (s3a.trans s4)) oks hrl fun H' s' => q H' ((s1.trans s2).trans ((s2a.trans s3).trans ((s3a.trans s4).trans s')))
end
end K7

set_option Elab.async false
set_option linter.all false
set_option maxRecDepth 100000
set_option maxHeartbeats 4000000
namespace K7
open PySem PySem.Spec PyProof.Rows L2 GX NdefX
def bads : List (Option (List Int)) := [some [0, 4, 0], some [13, 24, 0], some [1, 25, 0], some [1, 0, 0], some [1, 4, 4], some [1, 4, -1]]
theorem bads_bad : ∀ it ∈ bads, goodI it = false := by decide
theorem j160 : JOk ⟨1, 6, 0⟩ := ⟨by decide, by decide, by decide, by decide, by decide⟩
section
variable {P : Program} {w : World} {K : PySem.W.Frag} {mg : Str → Option Value} {base : Heap}
theorem ok_rfit {k : Nat} (D : Pr P K mg) : FnOk P w K mg base CX0 (k + 6) D._law_refusals_fit.f D._law_refusals_fit.fd ["numbers", "jobs"] spRfit := by
  have G__law_draw : FnOk P w K mg base CX0 (k + 1) D._law_draw.f D._law_draw.fd ["numbers", "many"] spDraw := ok_drawD D
  have G__law_refusal : FnOk P w K mg base CX0 (k + 5) D._law_refusal.f D._law_refusal.fd ["jobs", "place"] spRefusal := ok_refusal D
  refine D._law_refusals_fit.F.ok sc__law_refusals_fit (fun vs H Q E h => ?_) (fun cdv A outer s H vs Q E hr h => ?_)
  · obtain ⟨N, a, js, rfl, _⟩ := h
    rfl
  · obtain ⟨N, a, js, rfl, hn, jt, oks, q⟩ := h
    obtain ⟨tT, hT, rT⟩ := rf_tail (w := w) (P := P) (base := base) D D._law_refusals_fit.f cdv A outer s H Q E hr
    have hl5 := oks.2.1
    have hok := oks.ok
    refine ⟨_, (pss_cons (ps_if (PW.pt (pw_or (pt_cmpR op_ne (pe_call G__law_refusal hr (by rfl) D._law_refusal.g D._law_refusal.F.kp D._law_refusal.b .nil pass0 (pa_cons (pe_op (r := rRepA K) op_repA (pe_tup (pa_cons (pe_tup (pa_cons pe_int (pa_cons pe_int (pa_cons pe_int pa_nil)))) pa_nil)) pe_int) (pa_cons pe_int pa_nil))) pe_str (nomark _)) (pw_or1 (pt_cmpR op_ne (pe_call G__law_refusal hr (by rfl) D._law_refusal.g D._law_refusal.F.kp D._law_refusal.b .nil pass0 (pa_cons (pe_op (r := rRepA K) op_repA (pe_tup (pa_cons (pe_tup (pa_cons pe_int (pa_cons pe_int (pa_cons pe_int pa_nil)))) pa_nil)) pe_int) (pa_cons pe_int pa_nil))) pe_str (nomark _))))) (pss_one (ps_ret pe_bl)) pss_nil)
      (pss_cons (ps_if (PW.pt (pw_or (pt_cmpR op_ne (pe_call G__law_refusal hr (by rfl) D._law_refusal.g D._law_refusal.F.kp D._law_refusal.b .nil pass0 (pa_cons (pv 1) (pa_cons (pe_callB call_len (by rfl) D.B.len PySem.boot_len (pa_cons (pv 1) pa_nil)) pa_nil))) pe_str (nomark _)) (pw_or1 (pt_cmpR op_ne (pe_call G__law_refusal hr (by rfl) D._law_refusal.g D._law_refusal.F.kp D._law_refusal.b .nil pass0 (pa_cons (pv 1) (pa_cons (pe_un un_neg pe_int) pa_nil))) pe_str (nomark _))))) (pss_one (ps_ret pe_bl)) pss_nil)
      (pss_cons (ps_set (i := 2) sc__law_refusals_fit.nd rfl (.inl rfl) (pe_call G__law_draw (hr.mono (by omega)) (by rfl) D._law_draw.g D._law_draw.F.kp D._law_draw.b .nil pass0 (pa_cons (pv 0) (pa_cons (pe_callB call_len (by rfl) D.B.len PySem.boot_len (pa_cons (pv 1) pa_nil)) pa_nil))))
      (pss_cons (ps_for PassesOwn.never rfl (pi_list (pe_lst (pa_cons (pe_tup (pa_cons pe_int (pa_cons pe_int (pa_cons pe_int pa_nil)))) (pa_cons (pe_tup (pa_cons pe_int (pa_cons pe_int (pa_cons pe_int pa_nil)))) (pa_cons (pe_tup (pa_cons pe_int (pa_cons pe_int (pa_cons pe_int pa_nil)))) (pa_cons (pe_tup (pa_cons pe_int (pa_cons pe_int (pa_cons pe_int pa_nil)))) (pa_cons (pe_tup (pa_cons pe_int (pa_cons pe_int (pa_cons pe_int pa_nil)))) (pa_cons (pe_tup (pa_cons pe_int (pa_cons pe_int (pa_cons (pe_un un_neg pe_int) pa_nil)))) pa_nil)))))))) (pg_name (i := 3) sc__law_refusals_fit.nd rfl (.inl rfl)) (pss_one (ps_if (pt_cmpR op_ne (pe_call G__law_refusal hr (by rfl) D._law_refusal.g D._law_refusal.F.kp D._law_refusal.b .nil pass0 (pa_cons (pe_op (r := rCatA K) op_catA (pe_op (r := rCatA K) op_catA (pe_slice sl_tupA (pv 1) po_none (po_some (pv 2))) (pe_tup (pa_cons (pv 3) pa_nil))) (pe_slice sl_tupA (pv 1) (po_some (pe_op (r := rAddN) op_AddN (pv 2) pe_int)) po_none)) (pa_cons pe_int pa_nil))) pe_str (nomark _)) (pss_one (ps_ret pe_bl)) pss_nil)))
      hT)))), ?_⟩
    refine ⟨by show 3 ≤ sizeLine; decide, fun B0x nB0x => ⟨by show 1 ≤ sizeLine; decide, fun B1x nB1x => ⟨B1x, 6, [.ref B0x], rfl, rfl, sqT upd_same, by simp, by decide, by decide, by show 1 ≤ 1000; decide, fun z => absurd z (by decide), fun _ px npx => ?_⟩⟩⟩
    have spx := same_upd npx (o := .tup [.ref B0x, .ref B0x, .ref B0x, .ref B0x, .ref B0x, .ref B0x])
    have sB1x := (same_upd nB1x (o := .tup [.ref B0x])).trans spx
    have sB0x := (same_upd nB0x (o := .tup [.int 1, .int 6, .int 0])).trans sB1x
    have hbx : ItAt (upd (upd (upd H B0x (.tup [.int 1, .int 6, .int 0])) B1x (.tup [.ref B0x])) px (.tup [.ref B0x, .ref B0x, .ref B0x, .ref B0x, .ref B0x, .ref B0x])) (.ref B0x) (some [1, 6, 0]) := ⟨B0x, rfl, .inr (sB1x _ _ upd_same), by decide⟩
    refine ⟨.ref px, some [some [1, 6, 0], some [1, 6, 0], some [1, 6, 0], some [1, 6, 0], some [1, 6, 0], some [1, 6, 0]], 0, rfl, ⟨px, _, rfl, .inr upd_same, (.cons hbx (.cons hbx (.cons hbx (.cons hbx (.cons hbx (.cons hbx .nil)))))), by decide⟩, fun H1 s1 => ⟨rfl, _, rfl, iteFq (neS rfl) ?_⟩⟩
    have jt1 := jt.same (sB0x.trans s1)
    refine ⟨by show 3 ≤ sizeLine; decide, fun B0y nB0y => ⟨by show 1 ≤ sizeLine; decide, fun B1y nB1y => ⟨B1y, 5, [.ref B0y], rfl, rfl, sqT upd_same, by simp, by decide, by decide, by show 1 ≤ 1000; decide, fun z => absurd z (by decide), fun _ py npy => ?_⟩⟩⟩
    have spy := same_upd npy (o := .tup [.ref B0y, .ref B0y, .ref B0y, .ref B0y, .ref B0y])
    have sB1y := (same_upd nB1y (o := .tup [.ref B0y])).trans spy
    have sB0y := (same_upd nB0y (o := .tup [.int 1, .int 6, .int 0])).trans sB1y
    have hby : ItAt (upd (upd (upd H1 B0y (.tup [.int 1, .int 6, .int 0])) B1y (.tup [.ref B0y])) py (.tup [.ref B0y, .ref B0y, .ref B0y, .ref B0y, .ref B0y])) (.ref B0y) (some [1, 6, 0]) := ⟨B0y, rfl, .inr (sB1y _ _ upd_same), by decide⟩
    have cg5 : chk (some [some [1, 6, 0], some [1, 6, 0], some [1, 6, 0], some [1, 6, 0], some [1, 6, 0]]) = .ok [⟨1, 6, 0⟩, ⟨1, 6, 0⟩, ⟨1, 6, 0⟩, ⟨1, 6, 0⟩, ⟨1, 6, 0⟩] := chk_good (js := [⟨1, 6, 0⟩, ⟨1, 6, 0⟩, ⟨1, 6, 0⟩, ⟨1, 6, 0⟩, ⟨1, 6, 0⟩]) (fun j hj => by
      simp only [List.mem_cons, List.not_mem_nil, or_false, or_self] at hj
      rw [hj]; exact j160) (by decide)
    refine ⟨.ref py, some [some [1, 6, 0], some [1, 6, 0], some [1, 6, 0], some [1, 6, 0], some [1, 6, 0]], 4, rfl, ⟨py, _, rfl, .inr upd_same, (.cons hby (.cons hby (.cons hby (.cons hby (.cons hby .nil))))), by decide⟩, fun H2 s2 => ⟨rfl, _, rfl, iteFq (neS (by rw [cg5]; rfl)) ?_⟩⟩
    have jt2 := jt1.same (sB0y.trans s2)
    have n2 := ((hn.same (sB0x.trans s1)).same (sB0y.trans s2))
    clear hn jt1
    obtain ⟨ts2, ha2, pt2⟩ := id jt2
    have cg := chk_good hok hl5
    refine ⟨.ref a, rfl, .ref a, rfl, .ref a, js.length, rfl, .inr ⟨_, sqT ha2, (jt_len pt2).symm⟩, .ref a, some (itsOf js), (js.length : Nat), rfl, jb_of jt2 (by omega), fun H3 s3 => ⟨rfl, _, rfl, iteFq (neS ?_) ?_⟩⟩
    · rw [cg, toldE, if_neg (by omega)]
    have jt3 := jt2.same s3
    refine ⟨.ref a, rfl, 1, rfl, .ref a, some (itsOf js), -1, rfl, jb_of jt3 (by omega), fun H4 s4 => ⟨rfl, _, rfl, iteFq (neS ?_) ?_⟩⟩
    · rw [cg, toldE, if_neg (by omega)]
    have jt4 := jt3.same s4
    have n4 := (n2.same s3).same s4
    clear ha2 pt2 ts2
    obtain ⟨ts4, ha4, pt4⟩ := id jt4
    refine ⟨.ref N, rfl, .ref a, rfl, .ref a, js.length, rfl, .inr ⟨_, sqT ha4, (jt_len pt4).symm⟩, N, js.length, rfl, oks.1, n4, fun H5 r hrl s5 n5 => ?_⟩
    have jt5 := jt4.b n4 s5
    clear ha4 pt4 ts4
    refine ⟨by show 3 ≤ sizeLine; decide, fun A0 nA0 => ⟨by show 3 ≤ sizeLine; decide, fun A1 nA1 => ⟨by show 3 ≤ sizeLine; decide, fun A2 nA2 => ⟨by show 3 ≤ sizeLine; decide, fun A3 nA3 => ⟨by show 3 ≤ sizeLine; decide, fun A4 nA4 => ⟨1, rfl, by show 3 ≤ sizeLine; decide, fun A5 nA5 => ⟨by show 6 ≤ sizeLine; decide, fun L nL => ⟨L, rfl, ⟨_, sqL upd_same⟩, ?_⟩⟩⟩⟩⟩⟩⟩⟩
    have sL := same_upd nL (o := .lst [.ref A0, .ref A1, .ref A2, .ref A3, .ref A4, .ref A5])
    have sA5 := (same_upd nA5 (o := .tup [.int 1, .int 4, .int (-1)])).trans sL
    have sA4 := (same_upd nA4 (o := .tup [.int 1, .int 4, .int 4])).trans sA5
    have sA3 := (same_upd nA3 (o := .tup [.int 1, .int 0, .int 0])).trans sA4
    have sA2 := (same_upd nA2 (o := .tup [.int 1, .int 25, .int 0])).trans sA3
    have sA1 := (same_upd nA1 (o := .tup [.int 13, .int 24, .int 0])).trans sA2
    have sA0 := (same_upd nA0 (o := .tup [.int 0, .int 4, .int 0])).trans sA1
    refine forLs (D := { nx := _, rt := Q }) (xs := [.ref A0, .ref A1, .ref A2, .ref A3, .ref A4, .ref A5]) (fun m σ H' => (∃ c3, σ = [some (.ref N), some (.ref a), some (.int (r : Nat)), c3, none, none, none, none]) ∧ Same H5 H' ∧ H' L = some (.lst [.ref A0, .ref A1, .ref A2, .ref A3, .ref A4, .ref A5]) ∧ Paired (ItAt H') [.ref A0, .ref A1, .ref A2, .ref A3, .ref A4, .ref A5] bads) upd_same
      ⟨⟨_, rfl⟩, sA0, upd_same, ?_⟩ (fun m σ H' h => h.2.2.1) ?_ ?_
    · exact (.cons ⟨A0, rfl, .inr (sA1 _ _ upd_same), by decide⟩ (.cons ⟨A1, rfl, .inr (sA2 _ _ upd_same), by decide⟩ (.cons ⟨A2, rfl, .inr (sA3 _ _ upd_same), by decide⟩ (.cons ⟨A3, rfl, .inr (sA4 _ _ upd_same), by decide⟩ (.cons ⟨A4, rfl, .inr (sA5 _ _ upd_same), by decide⟩ (.cons ⟨A5, rfl, .inr (sL _ _ upd_same), by decide⟩ .nil))))))
    · rintro m x σ H6 hx0 ⟨⟨c3, rfl⟩, s6, eL, pb⟩
      obtain ⟨it, hit, hx⟩ := paired_get pb hx0
      have hbad := bads_bad it (List.mem_of_getElem? hit)
      have jt6 := jt5.same s6
      obtain ⟨tsz, haz, ptz⟩ := id jt6
      refine ⟨.ref a, rfl, .int r, rfl, (r : Nat), rfl, slA haz fun S1z Haz saz eaz => ?_⟩
      rw [cut_to] at eaz
      have ltz := jt_len ptz
      refine ⟨_, rfl, by show 1 ≤ sizeLine; decide, fun Uz nUz => ?_⟩
      have sUz := same_upd nUz (o := .tup [x])
      have hxz : ItAt (upd Haz Uz (.tup [x])) x it := hx.same (saz.trans sUz)
      refine catA (sUz _ _ eaz) upd_same (by rw [List.length_take]; show min r tsz.length + 1 ≤ 1000; omega) fun S2z Hcz scz ecz => ?_
      have sacz := saz.trans (sUz.trans scz)
      refine ⟨.ref a, rfl, .int r, rfl, r, 1, rfl, rfl, ((r + 1 : Nat) : Int), rfl, ?_⟩
      try delta tNoPart
      refine slA (sacz _ _ haz) fun S3z Hdz sdz edz => ?_
      rw [cut_from] at edz
      refine catA (sdz _ _ ecz) edz (by rw [List.length_append, List.length_take, List.length_drop]; show min r tsz.length + 1 + _ ≤ 1000; omega) fun S4z Hez sez eez => ?_
      have sz := sacz.trans (sdz.trans sez)
      have piz := its_at (ptz.same sz)
      have ppz : Paired (ItAt Hez) ((tsz.take r ++ [x]) ++ tsz.drop (r + 1)) (((itsOf js).take r ++ [it]) ++ (itsOf js).drop (r + 1)) := paired_app (paired_app (paired_take piz r).1 (.cons (hxz.same (scz.trans (sdz.trans sez))) .nil)) (paired_take piz (r + 1)).2
      have liz : (((itsOf js).take r ++ [it]) ++ (itsOf js).drop (r + 1)).length ≤ 5 := by
        rw [List.length_append, List.length_append, List.length_take, List.length_drop, List.length_singleton, its_len]
        omega
      have jbz : JbAt Hez (.ref S4z) (some (((itsOf js).take r ++ [it]) ++ (itsOf js).drop (r + 1))) := ⟨S4z, _, rfl, .inr eez, ppz, by omega⟩
      refine ⟨.ref S4z, _, 0, rfl, jbz, fun H8 s8 => ⟨rfl, _, rfl, iteFq (neS ?_) ⟨⟨_, rfl⟩, s6.trans (sz.trans s8), s8 _ _ (sz _ _ eL), paired_imp (fun _ _ h => h.same (sz.trans s8)) pb⟩⟩⟩
      rw [chk_bad (it := it) (by simp) hbad liz]
      rfl
    · rintro σ H6 ⟨⟨c3, rfl⟩, s6, eL, pb⟩
      exact rT _ _ _ _ _ N a r js H6 (jt5.same s6) oks hrl fun H' s' => q H' ((sameB_of ((sB0x.trans s1).trans ((sB0y.trans s2).trans (s3.trans s4)))).trans (s5.trans (sameB_of (s6.trans s')))) (n5.same (s6.trans s'))
end
end K7

set_option Elab.async false
set_option linter.all false
set_option maxRecDepth 100000
set_option maxHeartbeats 4000000
namespace K7
/-! ### closed runs -/
def firstM (js : List Job) : Nat → Nat → List Nat → Option (Nat × Nat)
  | 0, _, _ => none
  | f + 1, t, l => match miss js t l with
    | some i => some (i, t)
    | none => firstM js f (t + 1) (nextL js t l)
theorem firstM_some {js : List Job} {i m : Nat} : ∀ {f t : Nat}, NoM js t → firstM js f t (lefts js t) = some (i, m) → m < t + f ∧ IsFM js (some (i, m))
  | 0, t, _, h => by cases h
  | f + 1, t, n, h => by
    have h : (match miss js t (lefts js t) with | some i => some (i, t) | none => firstM js f (t + 1) (nextL js t (lefts js t))) = some (i, m) := h
    cases e : miss js t (lefts js t) with
    | some x =>
      rw [e] at h
      cases h
      exact ⟨by omega, e, n⟩
    | none =>
      rw [e] at h
      obtain ⟨h1, h2⟩ := firstM_some (f := f) (t := t + 1) (n.succ e) h
      exact ⟨by omega, h2⟩
theorem firstM_none {js : List Job} : ∀ {f t : Nat}, NoM js t → firstM js f t (lefts js t) = none → NoM js (t + f)
  | 0, t, n, _ => n
  | f + 1, t, n, h => by
    have h : (match miss js t (lefts js t) with | some i => some (i, t) | none => firstM js f (t + 1) (nextL js t (lefts js t))) = none := h
    cases e : miss js t (lefts js t) with
    | some x => rw [e] at h; cases h
    | none =>
      rw [e] at h
      have := firstM_none (f := f) (t := t + 1) (n.succ e) h
      rw [show t + (f + 1) = t + 1 + f by omega]
      exact this
def great (x : Nat) : List Job := [⟨12, 24, 0⟩, ⟨12, 23, x⟩]
theorem great_all : ∀ x, x < 23 → (firstM (great x) 1500 0 [0, 0]).isSome = true := by decide +kernel
theorem great_fm {x : Nat} (h : x < 23) : ∃ i t, t < 1500 ∧ IsFM (great x) (some (i, t)) := by
  have := great_all x h
  obtain ⟨⟨i, t⟩, e⟩ := Option.isSome_iff_exists.mp this
  obtain ⟨h1, h2⟩ := firstM_some (js := great x) (t := 0) (fun t h => by omega) e
  exact ⟨i, t, by omega, h2⟩
theorem great_ok {x : Nat} (h : x < 23) : ∀ j ∈ great x, JOk j := by
  intro j hj
  rcases List.mem_cons.mp hj with rfl | hj
  · exact ⟨by decide, by decide, by decide, by decide, by decide⟩
  · rw [List.mem_singleton.mp hj]
    exact ⟨show 1 ≤ 12 by decide, show 12 ≤ 12 by decide, show 1 ≤ 23 by decide, show 23 ≤ 24 by decide, h⟩
def long (x : Nat) : List Job := [⟨1, 3, 0⟩, ⟨2, 5, x⟩]
theorem long_ok {x : Nat} (h : x < 5) : ∀ j ∈ long x, JOk j := by
  intro j hj
  rcases List.mem_cons.mp hj with rfl | hj
  · exact ⟨by decide, by decide, by decide, by decide, by decide⟩
  · rw [List.mem_singleton.mp hj]
    exact ⟨show 1 ≤ 2 by decide, show 2 ≤ 12 by decide, show 1 ≤ 5 by decide, show 5 ≤ 24 by decide, h⟩
theorem long_all : ∀ x, x < 5 → firstM (long x) 30 0 [0, 0] = none ∧ lefts (long x) 15 = lefts (long x) 30 := by decide +kernel
theorem long_fm {x : Nat} (h : x < 5) : IsFM (long x) none := by
  obtain ⟨h1, h2⟩ := long_all x h
  have n : NoM (long x) 30 := firstM_none (js := long x) (t := 0) (f := 30) (fun t h => by omega) h1
  refine never_of_rep (c := 15) (i := 1) (k := 2) ⟨by decide, fun j hj => ?_⟩ (by decide) h2 n
  rcases List.mem_cons.mp hj with rfl | hj
  · exact ⟨5, rfl⟩
  · rw [List.mem_singleton.mp hj]; exact ⟨3, rfl⟩
theorem IsEnds.len {js : List Job} {pl many : Nat} {r : List Int} (h : IsEnds js pl many r) (n : IsFM js none) : r.length = many := by
  obtain ⟨T, h1, h2, h3, rfl⟩ := h
  have ge : many ≤ (ends js pl T).length := by
    rcases h3 with h3 | h3
    · exact h3
    · exact absurd (n T) h3
  cases T with
  | zero => exact Nat.le_antisymm (Nat.zero_le _) ge
  | succ T =>
    have := ends_len1 js pl T
    have := h2 T (Nat.lt_succ_self T)
    omega
theorem fm_nil : IsFM [] none := fun t => by unfold miss; cases lefts [] t <;> rfl
end K7

set_option Elab.async false
set_option linter.all false
set_option maxRecDepth 100000
set_option maxHeartbeats 4000000
namespace K7
open PySem PySem.Spec PyProof.Rows L2 GX NdefX
/-! ### law -/
def pdM : Option (Nat × Nat) → PyData
  | none => .none
  | some (i, t) => .tuple [.int (i : Nat), .int (t : Nat)]
theorem dpM {K : PySem.W.Frag} {H : Hp} {x : V} {r : Option (Nat × Nat)} (h : MisV H x r) : Dp K H x (pdM r) := by
  cases r with
  | none => obtain rfl : x = .non := h; exact .non
  | some r =>
    obtain ⟨T, rfl, hT⟩ := h
    exact dpI (ks := [(r.1 : Nat), (r.2 : Nat)]) hT
theorem shM (r : Option (Nat × Nat)) : SeqAt.shaped (pdM r) = true := by
  cases r with
  | none => decide +kernel
  | some r => exact shI [(r.1 : Nat), (r.2 : Nat)]
theorem eqM (r : Option (Nat × Nat)) : PyData.eqv (pdM r) (pdM r) = true := by
  cases r with
  | none => decide +kernel
  | some r => exact eqIr [(r.1 : Nat), (r.2 : Nat)]
def whoI (js : List Job) (n : Nat) : List Int := (List.range n).map fun i => whoV (whoR js i)
theorem whoI_v (js : List Job) (n : Nat) : (whoI js n).map V.int = whoT js n := by unfold whoI whoT; rw [List.map_map]; rfl
/-- jobs written as a display -/
theorem chkd_good {CN CM : Addr} {E : XK} {H : Hp} {ok : List Job → Prop} {js : List Job} (hok : ∀ j ∈ js, JOk j) (hl : js.length ≤ 5) (h : ok js) : Chkd CN CM E H ok (chk (some (itsOf js))) := by
  rw [chk_good hok hl]
  exact h
def LstT (H : Hp) (D : Addr) (x : V) (vs : List V) : Prop := ∃ b, x = .ref b ∧ b ≠ D ∧ H b = some (.lst vs)
theorem lst_its {H : Hp} {D : Addr} {js : List Job} : ∀ {us : List V}, Paired (fun x j => LstT H D x (jv j)) us js → Paired (ItAt H) us (itsOf js) := fun p => by
  unfold itsOf
  refine paired_map (g := fun j => some (ji j)) (paired_imp (fun x j h => ?_) p)
  obtain ⟨b, e, _, h⟩ := h
  exact ⟨b, e, .inl h, by show 3 ≤ 1000; decide⟩
theorem ne_of_none_r {H : Hp} {D p : Addr} {o : HO} (e : H D = some o) (np : H p = none) : p ≠ D := fun z => by rw [z, e] at np; cases np
theorem neD {d e : PyData} (h : PyData.eqv d e = true) : (!PyData.eqv d e) = false := by rw [h]; rfl
theorem MisV.b {N : Addr} {H H' : Hp} {x : V} {m : Option (Nat × Nat)} (n : NumsAt H N) (s : SameB N H H') (h : MisV H x m) : MisV H' x m := by
  cases m with
  | none => exact h
  | some m =>
    obtain ⟨T, e, hT⟩ := h
    obtain ⟨l, en, _⟩ := n
    exact ⟨T, e, s _ _ (ne_of hT en (by intro q; cases q)) hT⟩
section
variable {P : Program} {w : World} {K : PySem.W.Frag} {mg : Str → Option Value} {base : Heap}
theorem law_d {k : Nat} (D : Pr P K mg) (f : Addr) (cdv : Value) (A : Around) (outer : List Env) (s : Shared) (H0 : Hp) (Q : VK) (E : XK) (hr : Room (k + 6) (A.deeper (envOfC "law" (defScope s_law) s.heap.objs.size f cdv))) :
    ∃ t, PSs (cxOf (CX P w) P w K mg base n_law "law" (defScope s_law) f cdv A outer s H0 E) ((defBody s_law).drop 18) t ∧ ∀ (c0 c1 c3 c4 c5 c7 c8 c9 c10 : Option V) (a : Addr) (js : List Job) (mv : V) (r : Option (Nat × Nat)) (H : Hp), JobsT H a js → OkSet js → MisV H mv r → IsFM js r → (∀ H', Q (.bl true) H') →
      t { nx := fun _ H' => Q V.non H', rt := Q } [c0, c1, some (.ref a), c3, c4, c5, some mv, c7, c8, c9, c10] H := by
  have G_first_miss : FnOk P w K mg base (CX P w) (k + 4) D.first_miss.f D.first_miss.fd ["jobs"] (spFirst D.BadNumber.C D.TooMany.C) := ok_first D
  have G_who_runs : FnOk P w K mg base (CX P w) (k + 4) D.who_runs.f D.who_runs.fd ["jobs", "ticks"] (spWho D.BadNumber.C D.TooMany.C) := ok_who D
  have G__law_who : FnOk P w K mg base CX0 (k + 2) D._law_who.f D._law_who.fd ["jobs", "ticks"] spLWho := ok_lwho D
  refine ⟨_, (pss_one (ps_ret (pe_and (pe_cmpR (op_eqD hr.units) (pe_call G_first_miss (hr.mono (by omega)) (by rfl) D.first_miss.g D.first_miss.F.kp D.first_miss.b .nil (passes_call (takes_of rfl rfl rfl rfl) (fun _ _ _ _ h => h)) (pa_cons (pe_lc (own := [("job", 10)]) (g := (gName 10)) (tt := tYes) rfl sc_law.nd (pi_tup (pv 2)) (blkOk_by (own := [("job", 10)]) (N := n_law) (sc := defScope s_law) (by decide +kernel)) (fun _ _ _ _ _ => (pg_name (i := 10) sc_law.nd rfl (.inl rfl))) (fun _ _ _ _ _ => pts_nil) (fun _ _ _ _ _ => (pe_callTy (r := rListOf K) call_list_of (by rfl) D.B.list (by decide +kernel) (pa_cons (pv 10) pa_nil)))) pa_nil)) (pv 6) (nomark _)) (pe_one (pe_cmpR (op_eqD hr.units) (pe_call G_who_runs (hr.mono (by omega)) (by rfl) D.who_runs.g D.who_runs.F.kp D.who_runs.b .nil (passes_call (takes_of rfl rfl rfl rfl) (fun _ _ _ _ h => h)) (pa_cons (pe_callTy call_list_of (by rfl) D.B.list (by decide +kernel) (pa_cons (pv 2) pa_nil)) (pa_cons pe_int pa_nil))) (pe_call G__law_who (hr.mono (by omega)) (by rfl) D._law_who.g D._law_who.F.kp D._law_who.b .nil pass0 (pa_cons (pv 2) (pa_cons pe_int pa_nil))) (nomark _)))))), ?_⟩
  intro c0 c1 c3 c4 c5 c7 c8 c9 c10 a js mv r H jt oks hm hfm q
  obtain ⟨ts, ha, pt⟩ := id jt
  have lts := jt_len pt
  have hok := oks.ok
  have hl := oks.2.1
  refine ⟨.ref a, rfl, a, rfl, ⟨_, sqT ha⟩, lcTupD (fun D i H y => ∀ j, js[i]? = some j → LstT H D y (jv j)) (fun D i H H' x s h j hj => (h j hj).imp fun b h => ⟨h.1, h.2.1, s _ _ h.2.2⟩) (fun D i H x us ys e _ h j hj => (h j hj).imp fun b h => ⟨h.1, h.2.1, by rw [upd_ne h.2.1]; exact h.2.2⟩) ha (by omega) (fun Dl i y H2 Qk Qn hy s2 nDl eDl hk => ?_) (fun Dl H2 us nDl s2 eDl pu => ?_)⟩
  · obtain ⟨j, b, hj, rfl, hb⟩ := jobs_got (pt.same s2) hy
    obtain ⟨vs, eDl⟩ := eDl
    refine ⟨rfl, iteT (B := Qn H2) ⟨.ref b, rfl, listOf (.inr hb) fun p H4 s4 np e4 => hk _ H4 (fun j2 h2 => ?_) s4⟩⟩
    rw [hj] at h2
    cases h2
    exact ⟨p, rfl, ne_of_none_r eDl np, e4⟩
  have pu2 : Paired (fun x j => LstT H2 Dl x (jv j)) us js := paired_range pu lts fun i x j hj h => h j hj
  refine ⟨.ref Dl, some (itsOf js), rfl, ⟨Dl, us, rfl, .inl eDl, lst_its pu2, by rw [its_len]; omega⟩, chkd_good hok hl fun mv2 H3 r2 s3 hm2 hfm2 => ?_⟩
  obtain rfl := IsFM.uniq hfm hfm2
  have s13 := s2.trans s3
  refine ⟨mv, rfl, _, _, dpM hm2, dpM (hm.same s13), shM r, shM r, _, rfl, iteTq (eqM r) ?_⟩
  have ha3 := s13 _ _ ha
  refine ⟨.ref a, rfl, a, ts, rfl, .inr (sqT ha3), fun l nl => ?_⟩
  have sl := same_upd nl (o := .lst ts)
  have jl : JbAt (upd H3 l (.lst ts)) (.ref l) (some (itsOf js)) := ⟨l, ts, rfl, .inl upd_same, its_at ((pt.same s13).same sl), by rw [its_len]; omega⟩
  refine ⟨.ref l, some (itsOf js), 24, rfl, jl, chkd_good hok hl ?_⟩
  rw [if_pos (by decide)]
  refine ⟨by decide, fun T H4 s4 eT => ?_⟩
  have s14 := s13.trans (sl.trans s4)
  refine ⟨.ref a, rfl, a, js, 24, rfl, jt.same s14, hok, by omega, by decide, fun U H5 s5 eU => ?_⟩
  have eT5 := s5 _ _ eT
  rw [show (24 : Int).toNat = 24 from rfl, ← whoI_v] at eT5
  rw [← whoI_v] at eU
  refine ⟨_, _, dpI eT5, dpI eU, shI _, shI _, ?_⟩
  rw [eqIr]
  exact q H5
/-- a tuple of jobs that has just been laid -/
theorem jobs_laid {H : Hp} {js : List Job} {ts : List V} {U : Addr} (e : H U = some (.tup ts)) (p : TupsT H ts (js.map jv)) : JobsT H U js := ⟨ts, e, p⟩
theorem law_c {k : Nat} (D : Pr P K mg) (f : Addr) (cdv : Value) (A : Around) (outer : List Env) (s : Shared) (H0 : Hp) (Q : VK) (E : XK) (hr : Room (k + 6) (A.deeper (envOfC "law" (defScope s_law) s.heap.objs.size f cdv))) :
    ∃ t, PSs (cxOf (CX P w) P w K mg base n_law "law" (defScope s_law) f cdv A outer s H0 E) ((defBody s_law).drop 14) t ∧ ∀ (c0 c3 c4 c5 c7 c8 c9 c10 : Option V) (N a : Addr) (js : List Job) (mv : V) (r : Option (Nat × Nat)) (H : Hp), NumsAt H N → JobsT H a js → OkSet js → MisV H mv r → IsFM js r → (∀ H', Q (.bl true) H') →
      t { nx := fun _ H' => Q V.non H', rt := Q } [c0, some (.ref N), some (.ref a), c3, c4, c5, some mv, c7, c8, c9, c10] H := by
  have G_first_miss : FnOk P w K mg base (CX P w) (k + 4) D.first_miss.f D.first_miss.fd ["jobs"] (spFirst D.BadNumber.C D.TooMany.C) := ok_first D
  have G_who_runs : FnOk P w K mg base (CX P w) (k + 4) D.who_runs.f D.who_runs.fd ["jobs", "ticks"] (spWho D.BadNumber.C D.TooMany.C) := ok_who D
  have G_job_ends : FnOk P w K mg base (CX P w) (k + 4) D.job_ends.f D.job_ends.fd ["jobs", "place", "many"] (spEnds D.BadNumber.C D.TooMany.C) := ok_ends D
  have G__law_ends : FnOk P w K mg base CX0 (k + 2) D._law_ends.f D._law_ends.fd ["jobs", "place", "many"] spLEnds := ok_lends D
  have G__law_missed_at : FnOk P w K mg base CX0 (k + 2) D._law_missed_at.f D._law_missed_at.fd ["jobs"] spMisAt := ok_misat D
  have G__law_draw : FnOk P w K mg base CX0 (k + 1) D._law_draw.f D._law_draw.fd ["numbers", "many"] spDraw := ok_drawD D
  obtain ⟨tT, hT, rT⟩ := law_d (w := w) (P := P) (base := base) D f cdv A outer s H0 Q E hr
  refine ⟨_, (pss_cons (ps_set (i := 8) sc_law.nd rfl (.inl rfl) (pe_tup (pa_cons (pe_tup (pa_cons pe_int (pa_cons pe_int (pa_cons pe_int pa_nil)))) (pa_cons (pe_tup (pa_cons pe_int (pa_cons pe_int (pa_cons (pe_call G__law_draw (hr.mono (by omega)) (by rfl) D._law_draw.g D._law_draw.F.kp D._law_draw.b .nil pass0 (pa_cons (pv 1) (pa_cons pe_int pa_nil))) pa_nil)))) pa_nil))))
      (pss_cons (ps_if (pt_cmpR (op_neD hr.units) (pe_call G_first_miss (hr.mono (by omega)) (by rfl) D.first_miss.g D.first_miss.F.kp D.first_miss.b .nil (passes_call (takes_of rfl rfl rfl rfl) (fun _ _ _ _ h => h)) (pa_cons (pv 8) pa_nil)) (pe_call G__law_missed_at (hr.mono (by omega)) (by rfl) D._law_missed_at.g D._law_missed_at.F.kp D._law_missed_at.b .nil pass0 (pa_cons (pv 8) pa_nil)) (nomark _)) (pss_one (ps_ret pe_bl)) pss_nil)
      (pss_cons (ps_if (PW.pt (pw_or (pt_cmpR (op_neD hr.units) (pe_call G_who_runs (hr.mono (by omega)) (by rfl) D.who_runs.g D.who_runs.F.kp D.who_runs.b .nil (passes_call (takes_of rfl rfl rfl rfl) (fun _ _ _ _ h => h)) (pa_cons (pe_tup pa_nil) (pa_cons pe_int pa_nil))) (pe_tup (pa_cons (pe_un un_neg pe_int) (pa_cons (pe_un un_neg pe_int) (pa_cons (pe_un un_neg pe_int) pa_nil)))) (nomark _)) (pw_or1 (pt_cmpR op_notN (pe_call G_first_miss (hr.mono (by omega)) (by rfl) D.first_miss.g D.first_miss.F.kp D.first_miss.b .nil (passes_call (takes_of rfl rfl rfl rfl) (fun _ _ _ _ h => h)) (pa_cons (pe_tup pa_nil) pa_nil)) pe_non (nomark _))))) (pss_one (ps_ret pe_bl)) pss_nil)
      (pss_cons (ps_if (pt_cmpR op_eq (pe_call G__law_draw (hr.mono (by omega)) (by rfl) D._law_draw.g D._law_draw.F.kp D._law_draw.b .nil pass0 (pa_cons (pv 1) (pa_cons pe_int pa_nil))) pe_int (nomark _)) (pss_cons (ps_set (i := 9) sc_law.nd rfl (.inl rfl) (pe_tup (pa_cons (pe_tup (pa_cons pe_int (pa_cons pe_int (pa_cons pe_int pa_nil)))) (pa_cons (pe_tup (pa_cons pe_int (pa_cons pe_int (pa_cons (pe_call G__law_draw (hr.mono (by omega)) (by rfl) D._law_draw.g D._law_draw.F.kp D._law_draw.b .nil pass0 (pa_cons (pv 1) (pa_cons pe_int pa_nil))) pa_nil)))) pa_nil)))) (pss_cons (ps_set (i := 4) sc_law.nd rfl (.inl rfl) (pe_call G_job_ends (hr.mono (by omega)) (by rfl) D.job_ends.g D.job_ends.F.kp D.job_ends.b .nil (passes_call (takes_of rfl rfl rfl rfl) (fun _ _ _ _ h => h)) (pa_cons (pv 9) (pa_cons pe_int (pa_cons pe_int pa_nil))))) (pss_one (ps_if (PW.pt (pw_or (pt_cmpR op_ne (pe_callB call_len (by rfl) D.B.len PySem.boot_len (pa_cons (pv 4) pa_nil)) pe_int (nomark _)) (pw_or1 (pt_cmpR (op_neD hr.units) (pv 4) (pe_call G__law_ends (hr.mono (by omega)) (by rfl) D._law_ends.g D._law_ends.F.kp D._law_ends.b .nil pass0 (pa_cons (pv 9) (pa_cons pe_int (pa_cons pe_int pa_nil)))) (nomark _))))) (pss_one (ps_ret pe_bl)) pss_nil)))) pss_nil)
      hT)))), ?_⟩
  intro c0 c3 c4 c5 c7 c8 c9 c10 N a js mv r H hn jt oks hm hfm q
  -- two great jobs
  refine ⟨by show 3 ≤ sizeLine; decide, fun A0 nA0 => ⟨.ref N, rfl, N, 23, rfl, by decide, hn.same (same_upd nA0), fun H1 x hx s1 n1 => ⟨by show 3 ≤ sizeLine; decide, fun A1 nA1 => ⟨by show 2 ≤ sizeLine; decide, fun G nG => ?_⟩⟩⟩⟩
  have sA0 := same_upd nA0 (o := .tup [.int 12, .int 24, .int 0])
  have nN := hn.same sA0
  have e0 : H1 A0 = some (.tup [.int 12, .int 24, .int 0]) := s1 _ _ (nums_ne hn nA0) upd_same
  have sA1 := same_upd nA1 (o := .tup [.int 12, .int 23, .int (x : Nat)])
  have sG := same_upd nG (o := .tup [.ref A0, .ref A1])
  have s2 := sA1.trans sG
  have e1 : (upd (upd H1 A1 (.tup [.int 12, .int 23, .int (x : Nat)])) G (.tup [.ref A0, .ref A1])) A1 = some (.tup [.int 12, .int 23, .int (x : Nat)]) := sG _ _ upd_same
  have jG : JobsT (upd (upd H1 A1 (.tup [.int 12, .int 23, .int (x : Nat)])) G (.tup [.ref A0, .ref A1])) G (great x) := ⟨_, upd_same, .cons ⟨A0, rfl, s2 _ _ e0⟩ (.cons ⟨A1, rfl, e1⟩ .nil)⟩
  have jt2 := ((jt.same sA0).b nN s1).same s2
  have n2 := n1.same s2
  have hm2 := ((hm.same sA0).b nN s1).same s2
  generalize upd (upd H1 A1 (.tup [.int 12, .int 23, .int (x : Nat)])) G (.tup [.ref A0, .ref A1]) = H2 at jG jt2 n2 hm2
  obtain ⟨gi, gt, gt1, gf⟩ := great_fm hx
  refine ⟨.ref G, rfl, .ref G, some (itsOf (great x)), rfl, jb_of jG (show 2 ≤ 1000 by decide), chkd_good (great_ok hx) (show 2 ≤ 5 by decide) fun v3 H3 r3 s3 hm3 hfm3 => ?_⟩
  obtain rfl := IsFM.uniq gf hfm3
  refine ⟨.ref G, rfl, G, great x, gi, gt, rfl, jG.same s3, great_ok hx, show 2 ≤ 1000 by decide, gt1, gf, fun v4 H4 s4 hm4 => ?_⟩
  refine ⟨_, _, dpM (hm3.same s4), dpM hm4, shM _, shM _, _, rfl, iteFq (neD (eqM _)) ?_⟩
  have s24 := s3.trans s4
  -- no jobs
  refine ⟨Nat.zero_le _, fun B nB => ?_⟩
  have sB := same_upd nB (o := .tup [])
  refine ⟨.ref B, some [], 3, rfl, ⟨B, [], rfl, .inr upd_same, .nil, by decide⟩, ?_⟩
  refine chkd_good (js := []) (fun j hj => absurd hj (by simp)) (by decide) ?_
  rw [if_pos (by decide)]
  refine ⟨by decide, fun T H5 s5 eT => ⟨1, rfl, 1, rfl, 1, rfl, by show 3 ≤ sizeLine; decide, fun U nU => ?_⟩⟩
  have sU := same_upd nU (o := .tup [.int (-1), .int (-1), .int (-1)])
  have eT5 : (upd H5 U (.tup [.int (-1), .int (-1), .int (-1)])) T = some (.tup (([-1, -1, -1] : List Int).map V.int)) := sU _ _ (eT.trans (by rfl))
  refine ⟨_, _, dpI eT5, dpI (ks := [-1, -1, -1]) upd_same, shI _, shI _, _, rfl, iteFq (neD (eqIr _)) ?_⟩
  have s4U := (sB.trans s5).trans sU
  generalize upd H5 U (.tup [.int (-1), .int (-1), .int (-1)]) = H6 at s4U
  refine ⟨Nat.zero_le _, fun B2 nB2 => ?_⟩
  have sB2 := same_upd nB2 (o := .tup [])
  refine ⟨.ref B2, some [], rfl, ⟨B2, [], rfl, .inr upd_same, .nil, by decide⟩, chkd_good (js := []) (fun j hj => absurd hj (by simp)) (by decide) fun v7 H7 r7 s7 hm7 hf7 => ?_⟩
  obtain rfl := IsFM.uniq fm_nil hf7
  obtain rfl : v7 = .non := hm7
  refine ⟨rfl, _, rfl, iteFq (by rfl) ?_⟩
  have s27 := s24.trans (s4U.trans (sB2.trans s7))
  have n7 := n2.same s27
  have jt7 := jt2.same s27
  have hm8 := hm2.same s27
  refine ⟨.ref N, rfl, N, 4, rfl, by decide, n7, fun H8 y hy s8 n8 => ⟨rfl, _, rfl, ?_⟩⟩
  have jt8 := jt7.b n7 s8
  have hm9 := hm8.b n7 s8
  by_cases h3 : y = 3
  rotate_left
  · exact iteFq (decide_eq_false (fun z => h3 (by injection z with z; exact_mod_cast z))) (rT _ _ _ _ _ _ _ _ _ a js mv r H8 jt8 oks hm9 hfm q)
  refine iteTq (decide_eq_true (by rw [h3]; rfl)) ?_
  -- long
  refine ⟨by show 3 ≤ sizeLine; decide, fun C0 nC0 => ⟨.ref N, rfl, N, 5, rfl, by decide, n8.same (same_upd nC0), fun H9 z hz s9 n9 => ⟨by show 3 ≤ sizeLine; decide, fun C1 nC1 => ⟨by show 2 ≤ sizeLine; decide, fun G nG => ?_⟩⟩⟩⟩
  have sC0 := same_upd nC0 (o := .tup [.int 1, .int 3, .int 0])
  have nN9 := n8.same sC0
  have f0 : H9 C0 = some (.tup [.int 1, .int 3, .int 0]) := s9 _ _ (nums_ne n8 nC0) upd_same
  have sC1 := same_upd nC1 (o := .tup [.int 2, .int 5, .int (z : Nat)])
  have sG9 := same_upd nG (o := .tup [.ref C0, .ref C1])
  have s10 := sC1.trans sG9
  have f1 : (upd (upd H9 C1 (.tup [.int 2, .int 5, .int (z : Nat)])) G (.tup [.ref C0, .ref C1])) C1 = some (.tup [.int 2, .int 5, .int (z : Nat)]) := sG9 _ _ upd_same
  have jL : JobsT (upd (upd H9 C1 (.tup [.int 2, .int 5, .int (z : Nat)])) G (.tup [.ref C0, .ref C1])) G (long z) := ⟨_, upd_same, .cons ⟨C0, rfl, s10 _ _ f0⟩ (.cons ⟨C1, rfl, f1⟩ .nil)⟩
  have jt10 := ((jt8.same sC0).b nN9 s9).same s10
  have hm10 := ((hm9.same sC0).b nN9 s9).same s10
  generalize upd (upd H9 C1 (.tup [.int 2, .int 5, .int (z : Nat)])) G (.tup [.ref C0, .ref C1]) = H10 at jL jt10 hm10
  refine ⟨.ref G, rfl, .ref G, some (itsOf (long z)), 1, 200, rfl, jb_of jL (show 2 ≤ 1000 by decide), chkd_good (long_ok hz) (show 2 ≤ 5 by decide) ?_⟩
  have l2 : (0 : Int) ≤ 1 ∧ (1 : Int) < (((long z).length : Nat) : Int) := by show (0 : Int) ≤ 1 ∧ (1 : Int) < ((2 : Nat) : Int); decide
  rw [if_pos l2, if_pos (by decide)]
  refine fun T H11 re s11 eT11 ie => ?_
  have ie : IsEnds (long z) 1 200 re := ie
  have hlen := ie.len (long_fm hz)
  refine ⟨.ref T, rfl, .ref T, 200, rfl, .inr ⟨_, sqT eT11, by show 200 = (re.map V.int).length; rw [List.length_map]; exact hlen.symm⟩, rfl, _, rfl, iteFq (by rfl) ?_⟩
  refine ⟨.ref T, rfl, .ref G, rfl, G, long z, 1, 200, ⟨2, 5, z⟩, rfl, jL.same s11, long_ok hz, show 2 ≤ 1000 by decide, rfl, show 5 * 201 ≤ 1100 by decide, fun U H12 re2 s12 eU ie2 => ?_⟩
  obtain rfl := IsEnds.uniq ie ie2
  refine ⟨_, _, dpI (ks := re) (s12 _ _ eT11), dpI (ks := re) eU, shI _, shI _, _, rfl, iteFq (neD (eqIr _)) ?_⟩
  have s13 := s11.trans s12
  exact rT _ _ _ _ _ _ _ _ _ a js mv r H12 (jt10.same s13) oks (hm10.same s13) hfm q
end
end K7

set_option Elab.async false
set_option linter.all false
set_option maxRecDepth 100000
set_option maxHeartbeats 4000000
namespace K7
open PySem PySem.Spec PyProof.Rows L2 GX NdefX
def spLaw (K : PySem.W.Frag) : Sp := fun vs H Q _ => ∃ (a : Addr) (ns : List Int), vs = [.ref a] ∧ SqL K H a (ns.map V.int) ∧ ns.length ≤ 63 ∧ ∀ H', Q (.bl true) H'
section
variable {P : Program} {w : World} {K : PySem.W.Frag} {mg : Str → Option Value} {base : Heap}
theorem law_b {k : Nat} (D : Pr P K mg) (f : Addr) (cdv : Value) (A : Around) (outer : List Env) (s : Shared) (H0 : Hp) (Q : VK) (E : XK) (hr : Room (k + 6) (A.deeper (envOfC "law" (defScope s_law) s.heap.objs.size f cdv))) :
    ∃ t, PSs (cxOf (CX P w) P w K mg base n_law "law" (defScope s_law) f cdv A outer s H0 E) ((defBody s_law).drop 6) t ∧ ∀ (c0 c3 c4 c5 c6 c7 c8 c9 c10 : Option V) (N a : Addr) (js : List Job) (H : Hp), NumsAt H N → JobsT H a js → OkSet js → (∀ H', Q (.bl true) H') →
      t { nx := fun _ H' => Q V.non H', rt := Q } [c0, some (.ref N), some (.ref a), c3, c4, c5, c6, c7, c8, c9, c10] H := by
  have G_first_miss : FnOk P w K mg base (CX P w) (k + 4) D.first_miss.f D.first_miss.fd ["jobs"] (spFirst D.BadNumber.C D.TooMany.C) := ok_first D
  have G_job_ends : FnOk P w K mg base (CX P w) (k + 4) D.job_ends.f D.job_ends.fd ["jobs", "place", "many"] (spEnds D.BadNumber.C D.TooMany.C) := ok_ends D
  have G__law_ends : FnOk P w K mg base CX0 (k + 2) D._law_ends.f D._law_ends.fd ["jobs", "place", "many"] spLEnds := ok_lends D
  have G__law_missed : FnOk P w K mg base CX0 (k + 2) D._law_missed.f D._law_missed.fd ["jobs"] spLMissed := ok_lmissed D
  have G__law_draw : FnOk P w K mg base CX0 (k + 1) D._law_draw.f D._law_draw.fd ["numbers", "many"] spDraw := ok_drawD D
  have G__law_int : FnOk P w K mg base CX0 (k + 1) D._law_int.f D._law_int.fd ["value"] spInt := ok_intD D
  have G__law_refusals_fit : FnOk P w K mg base CX0 (k + 6) D._law_refusals_fit.f D._law_refusals_fit.fd ["numbers", "jobs"] spRfit := ok_rfit D
  obtain ⟨tT, hT, rT⟩ := law_c (w := w) (P := P) (base := base) D f cdv A outer s H0 Q E hr
  refine ⟨_, (pss_cons (ps_set (i := 6) sc_law.nd rfl (.inl rfl) (pe_call G__law_missed (hr.mono (by omega)) (by rfl) D._law_missed.g D._law_missed.F.kp D._law_missed.b .nil pass0 (pa_cons (pv 2) pa_nil)))
      (pss_cons (ps_set (i := 4) sc_law.nd rfl (.inl rfl) (pe_call G_first_miss (hr.mono (by omega)) (by rfl) D.first_miss.g D.first_miss.F.kp D.first_miss.b .nil (passes_call (takes_of rfl rfl rfl rfl) (fun _ _ _ _ h => h)) (pa_cons (pv 2) pa_nil)))
      (pss_cons (ps_if (pt_cmpR op_isN (pv 6) pe_non (nomark _)) (pss_one (ps_if (pt_cmpR op_notN (pv 4) pe_non (nomark _)) (pss_one (ps_ret pe_bl)) pss_nil)) (pss_one (ps_if (PW.pt (pw_or (pt_not (pt_val (pe_callB call_isi (by rfl) D.B.isinstance (by decide +kernel) (pa_cons (pv 4) (pa_cons (pe_bltn (v := .ty "tuple") (u := .type "tuple") (by rfl) D.B.tuple (by decide +kernel) rfl) pa_nil))))) (pw_or (pt_cmpR (op_neD hr.units) (pv 4) (pv 6) (nomark _)) (pw_or1 (pt_not (pt_val (pe_call G__law_int (hr.mono (by omega)) (by rfl) D._law_int.g D._law_int.F.kp D._law_int.b .nil pass0 (pa_cons (pe_ix (r := rIxT K) ix_tup (pv 4) pe_int (fun _ _ => rfl)) pa_nil)))))))) (pss_one (ps_ret pe_bl)) pss_nil)))
      (pss_cons (ps_set (i := 5) sc_law.nd rfl (.inl rfl) (pe_call G__law_draw (hr.mono (by omega)) (by rfl) D._law_draw.g D._law_draw.F.kp D._law_draw.b .nil pass0 (pa_cons (pv 1) (pa_cons (pe_callB call_len (by rfl) D.B.len PySem.boot_len (pa_cons (pv 2) pa_nil)) pa_nil))))
      (pss_cons (ps_set (i := 7) sc_law.nd rfl (.inl rfl) (pe_call G__law_draw (hr.mono (by omega)) (by rfl) D._law_draw.g D._law_draw.F.kp D._law_draw.b .nil pass0 (pa_cons (pv 1) (pa_cons pe_int pa_nil))))
      (pss_cons (ps_set (i := 4) sc_law.nd rfl (.inl rfl) (pe_call G_job_ends (hr.mono (by omega)) (by rfl) D.job_ends.g D.job_ends.F.kp D.job_ends.b .nil (passes_call (takes_of rfl rfl rfl rfl) (fun _ _ _ _ h => h)) (pa_cons (pv 2) (pa_cons (pv 5) (pa_cons (pv 7) pa_nil)))))
      (pss_cons (ps_if (PW.pt (pw_or (pt_not (pt_val (pe_callB call_isi (by rfl) D.B.isinstance (by decide +kernel) (pa_cons (pv 4) (pa_cons (pe_bltn (v := .ty "tuple") (u := .type "tuple") (by rfl) D.B.tuple (by decide +kernel) rfl) pa_nil))))) (pw_or1 (pt_cmpR (op_neD hr.units) (pv 4) (pe_call G__law_ends (hr.mono (by omega)) (by rfl) D._law_ends.g D._law_ends.F.kp D._law_ends.b .nil pass0 (pa_cons (pv 2) (pa_cons (pv 5) (pa_cons (pv 7) pa_nil)))) (nomark _))))) (pss_one (ps_ret pe_bl)) pss_nil)
      (pss_cons (ps_if (pt_not (pt_val (pe_call G__law_refusals_fit hr (by rfl) D._law_refusals_fit.g D._law_refusals_fit.F.kp D._law_refusals_fit.b .nil pass0 (pa_cons (pv 1) (pa_cons (pv 2) pa_nil))))) (pss_one (ps_ret pe_bl)) pss_nil)
      hT)))))))), ?_⟩
  intro c0 c3 c4 c5 c6 c7 c8 c9 c10 N a js H hn jt oks q
  have hok := oks.ok
  have hl := oks.2.1
  refine ⟨.ref a, rfl, a, js, rfl, jt, oks, fun mv H1 r s1 hm hfm => ?_⟩
  have jt1 := jt.same s1
  refine ⟨.ref a, rfl, .ref a, some (itsOf js), rfl, jb_of jt1 (by omega), chkd_good hok hl fun mv2 H2 r2 s2 hm2 hfm2 => ?_⟩
  obtain rfl := IsFM.uniq hfm hfm2
  have s12 := s1.trans s2
  have hmA := hm.same s2
  have jt2 := jt.same s12
  have n2 := hn.same s12
  obtain ⟨ts, ha, pt⟩ := id jt2
  refine ⟨mv, rfl, rfl, _, rfl, ?_⟩
  cases r with
  | none =>
    obtain rfl : mv = .non := hm
    obtain rfl : mv2 = .non := hm2
    refine iteTq rfl ⟨_, rfl, rfl, _, rfl, iteFq rfl ?_⟩
    refine ⟨.ref N, rfl, .ref a, rfl, .ref a, js.length, rfl, .inr ⟨_, sqT ha, (jt_len pt).symm⟩, N, js.length, rfl, oks.1, n2, fun H3 p hp s3 n3 => ?_⟩
    have jt3 := jt2.b n2 s3
    have hm3 := hmA.b n2 s3
    refine ⟨.ref N, rfl, N, 6, rfl, by decide, n3, fun H4 mn hmn s4 n4 => ?_⟩
    have jt4 := jt3.b n3 s4
    have hm4 := hm3.b n3 s4
    obtain ⟨j, hj⟩ : ∃ j, js[p]? = some j := ⟨_, List.getElem?_eq_getElem hp⟩
    have jk := hok j (List.mem_of_getElem? hj)
    have hb : j.p * (mn + 1) ≤ 1100 := Nat.le_trans (Nat.mul_le_mul jk.p2 (show mn + 1 ≤ 6 by omega)) (by decide)
    refine ⟨.ref a, rfl, .int p, rfl, .int mn, rfl, .ref a, some (itsOf js), (p : Nat), (mn : Nat), rfl, jb_of jt4 (by omega), chkd_good hok hl ?_⟩
    rw [if_pos (show 0 ≤ ((p : Nat) : Int) ∧ ((p : Nat) : Int) < (js.length : Nat) by omega), if_pos (show 0 ≤ ((mn : Nat) : Int) ∧ ((mn : Nat) : Int) ≤ 200 by omega)]
    refine fun T H5 re s5 eT ie => ?_
    have ie : IsEnds js p mn re := ie
    refine ⟨_, rfl, _, _, .type "tuple", _, true, rfl, .ty "tuple", .base (.tup eT), kit_ty (by decide +kernel), true, rfl, iteF ?_⟩
    refine ⟨_, rfl, .ref a, rfl, .int p, rfl, .int mn, rfl, a, js, p, mn, j, rfl, jt4.same s5, hok, by omega, hj, hb, fun U H6 re2 s6 eU ie2 => ?_⟩
    obtain rfl := IsEnds.uniq ie ie2
    refine ⟨_, _, dpI (ks := re) (s6 _ _ eT), dpI (ks := re) eU, shI _, shI _, _, rfl, iteFq (neD (eqIr _)) ?_⟩
    have s46 := s5.trans s6
    have jt6 := jt4.same s46
    have n6 := n4.same s46
    have hm6 := hm4.same s46
    refine ⟨.ref N, rfl, .ref a, rfl, N, a, js, rfl, n6, jt6, oks, fun H7 s7 n7 => ⟨true, rfl, iteF ?_⟩⟩
    exact rT _ _ _ _ _ _ _ _ N a js _ _ H7 n7 (jt6.b n6 s7) oks (hm6.b n6 s7) hfm q
  | some r =>
    obtain ⟨i, t⟩ := r
    obtain ⟨T1, rfl, e1⟩ := id hmA
    obtain ⟨T2, rfl, e2⟩ := id hm2
    refine iteFq rfl ⟨_, rfl, _, _, .type "tuple", _, true, rfl, .ty "tuple", .base (.tup e2), kit_ty (by decide +kernel), true, rfl, iteF ⟨_, rfl, _, rfl, _, _, dpM (r := some (i, t)) hm2, dpM (r := some (i, t)) hmA, shM _, shM _, _, rfl, iteFq (neD (eqM _)) ⟨_, rfl, T2, _, 1, _, rfl, rfl, sqT e2, atI_nat (j := 1) rfl, (t : Nat), rfl, true, rfl, iteF ?_⟩⟩⟩
    refine ⟨.ref N, rfl, .ref a, rfl, .ref a, js.length, rfl, .inr ⟨_, sqT ha, (jt_len pt).symm⟩, N, js.length, rfl, oks.1, n2, fun H3 p hp s3 n3 => ?_⟩
    have jt3 := jt2.b n2 s3
    have hm3 := hmA.b n2 s3
    refine ⟨.ref N, rfl, N, 6, rfl, by decide, n3, fun H4 mn hmn s4 n4 => ?_⟩
    have jt4 := jt3.b n3 s4
    have hm4 := hm3.b n3 s4
    obtain ⟨j, hj⟩ : ∃ j, js[p]? = some j := ⟨_, List.getElem?_eq_getElem hp⟩
    have jk := hok j (List.mem_of_getElem? hj)
    have hb : j.p * (mn + 1) ≤ 1100 := Nat.le_trans (Nat.mul_le_mul jk.p2 (show mn + 1 ≤ 6 by omega)) (by decide)
    refine ⟨.ref a, rfl, .int p, rfl, .int mn, rfl, .ref a, some (itsOf js), (p : Nat), (mn : Nat), rfl, jb_of jt4 (by omega), chkd_good hok hl ?_⟩
    rw [if_pos (show 0 ≤ ((p : Nat) : Int) ∧ ((p : Nat) : Int) < (js.length : Nat) by omega), if_pos (show 0 ≤ ((mn : Nat) : Int) ∧ ((mn : Nat) : Int) ≤ 200 by omega)]
    refine fun T H5 re s5 eT ie => ?_
    have ie : IsEnds js p mn re := ie
    refine ⟨_, rfl, _, _, .type "tuple", _, true, rfl, .ty "tuple", .base (.tup eT), kit_ty (by decide +kernel), true, rfl, iteF ?_⟩
    refine ⟨_, rfl, .ref a, rfl, .int p, rfl, .int mn, rfl, a, js, p, mn, j, rfl, jt4.same s5, hok, by omega, hj, hb, fun U H6 re2 s6 eU ie2 => ?_⟩
    obtain rfl := IsEnds.uniq ie ie2
    refine ⟨_, _, dpI (ks := re) (s6 _ _ eT), dpI (ks := re) eU, shI _, shI _, _, rfl, iteFq (neD (eqIr _)) ?_⟩
    have s46 := s5.trans s6
    have jt6 := jt4.same s46
    have n6 := n4.same s46
    have hm6 := hm4.same s46
    refine ⟨.ref N, rfl, .ref a, rfl, N, a, js, rfl, n6, jt6, oks, fun H7 s7 n7 => ⟨true, rfl, iteF ?_⟩⟩
    exact rT _ _ _ _ _ _ _ _ N a js _ _ H7 n7 (jt6.b n6 s7) oks (hm6.b n6 s7) hfm q
theorem ok_law {k : Nat} (D : Pr P K mg) {f : Addr} {fd : FuncData} (F : Fun K "law" "law" s_law f fd) : FnOk P w K mg base (CX P w) (k + 7) f fd ["script"] (spLaw K) := by
  have G__law_numbers : FnOk P w K mg base CX0 (k + 1) D._law_numbers.f D._law_numbers.fd ["script"] (spLNums K) := ok_numsD D
  have G__law_jobs : FnOk P w K mg base CX0 (k + 2) D._law_jobs.f D._law_jobs.fd ["numbers"] spLJobs := ok_ljobs D
  have G__law_draw : FnOk P w K mg base CX0 (k + 1) D._law_draw.f D._law_draw.fd ["numbers", "many"] spDraw := ok_drawD D
  have G__law_int : FnOk P w K mg base CX0 (k + 1) D._law_int.f D._law_int.fd ["value"] spInt := ok_intD D
  have G_who_runs : FnOk P w K mg base (CX P w) (k + 4) D.who_runs.f D.who_runs.fd ["jobs", "ticks"] (spWho D.BadNumber.C D.TooMany.C) := ok_who D
  have G__law_who : FnOk P w K mg base CX0 (k + 2) D._law_who.f D._law_who.fd ["jobs", "ticks"] spLWho := ok_lwho D
  refine F.okX sc_law (fun vs H Q E h => ?_) (fun cdv A outer s H vs Q E hr h => ?_)
  · obtain ⟨a, ns, rfl, _⟩ := h
    rfl
  · obtain ⟨a0, ns, rfl, hS, hlen, q⟩ := h
    obtain ⟨tT, hT, rT⟩ := law_b (w := w) (P := P) (base := base) D f cdv A outer s H Q E hr
    refine ⟨_, (pss_cons (ps_set (i := 1) sc_law.nd rfl (.inl rfl) (pe_call G__law_numbers (hr.mono (by omega)) (by rfl) D._law_numbers.g D._law_numbers.F.kp D._law_numbers.b .nil pass0 (pa_cons (pv 0) pa_nil)))
      (pss_cons (ps_set (i := 2) sc_law.nd rfl (.inl rfl) (pe_call G__law_jobs (hr.mono (by omega)) (by rfl) D._law_jobs.g D._law_jobs.F.kp D._law_jobs.b .nil pass0 (pa_cons (pv 1) pa_nil)))
      (pss_cons (ps_set (i := 3) sc_law.nd rfl (.inl rfl) (pe_call G__law_draw (hr.mono (by omega)) (by rfl) D._law_draw.g D._law_draw.F.kp D._law_draw.b .nil pass0 (pa_cons (pv 1) (pa_cons pe_int pa_nil))))
      (pss_cons (ps_set (i := 4) sc_law.nd rfl (.inl rfl) (pe_call G_who_runs (hr.mono (by omega)) (by rfl) D.who_runs.g D.who_runs.F.kp D.who_runs.b .nil (passes_call (takes_of rfl rfl rfl rfl) (fun _ _ _ _ h => h)) (pa_cons (pv 2) (pa_cons (pv 3) pa_nil))))
      (pss_cons (ps_if (PW.pt (pw_or (pt_not (pt_val (pe_callB call_isi (by rfl) D.B.isinstance (by decide +kernel) (pa_cons (pv 4) (pa_cons (pe_bltn (v := .ty "tuple") (u := .type "tuple") (by rfl) D.B.tuple (by decide +kernel) rfl) pa_nil))))) (pw_or1 (pt_cmpR (op_neD hr.units) (pv 4) (pe_call G__law_who (hr.mono (by omega)) (by rfl) D._law_who.g D._law_who.F.kp D._law_who.b .nil pass0 (pa_cons (pv 2) (pa_cons (pv 3) pa_nil))) (nomark _))))) (pss_one (ps_ret pe_bl)) pss_nil)
      (pss_cons (ps_for (by passes_own) rfl (pi_tup (pv 4)) (pg_name (i := 5) sc_law.nd rfl (.inl rfl)) (pss_one (ps_if (pt_not (pt_val (pe_call G__law_int (hr.mono (by omega)) (by rfl) D._law_int.g D._law_int.F.kp D._law_int.b .nil pass0 (pa_cons (pv 5) pa_nil)))) (pss_one (ps_ret pe_bl)) pss_nil)))
      hT)))))), ?_⟩
    refine ⟨.ref a0, rfl, a0, ns, rfl, hS, hlen, fun N H1 l s1 nN eN hl => ?_⟩
    have hn : NumsAt H1 N := ⟨l, eN, hl⟩
    refine ⟨.ref N, rfl, N, rfl, hn, fun a H2 js s2 n2 jt oks => ?_⟩
    refine ⟨.ref N, rfl, N, 61, rfl, by decide, n2, fun H3 t ht s3 n3 => ?_⟩
    have jt3 := jt.b n2 s3
    have hok := oks.ok
    have hl5 := oks.2.1
    refine ⟨.ref a, rfl, .int t, rfl, .ref a, some (itsOf js), (t : Nat), rfl, jb_of jt3 (by omega), chkd_good hok hl5 ?_⟩
    rw [if_pos (by omega)]
    refine ⟨by omega, fun T H4 s4 eT => ?_⟩
    rw [Int.toNat_natCast] at eT
    refine ⟨_, rfl, _, _, .type "tuple", _, true, rfl, .ty "tuple", .base (.tup eT), kit_ty (by decide +kernel), true, rfl, iteF ?_⟩
    refine ⟨_, rfl, .ref a, rfl, .int t, rfl, a, js, t, rfl, jt3.same s4, hok, by omega, by omega, fun U H5 s5 eU => ?_⟩
    have eT5 := s5 _ _ eT
    have eT6 := eT5
    rw [← whoI_v] at eT6 eU
    refine ⟨_, _, dpI eT6, dpI eU, shI _, shI _, _, rfl, iteFq (neD (eqIr _)) ?_⟩
    refine ⟨.ref T, rfl, T, rfl, ⟨_, sqT eT5⟩, ?_⟩
    have s45 := s4.trans s5
    refine forTt (D := { nx := _, rt := Q }) (fun i σ H' => (∃ c5, σ = [some (.ref a0), some (.ref N), some (.ref a), some (.int (t : Nat)), some (.ref T), c5, none, none, none, none, none]) ∧ Same H5 H') eT5 ⟨⟨_, rfl⟩, Same.refl _⟩ (fun i σ H' o p e => p.2 _ _ e) ?_ ?_
    · rintro i x σ H6 hx ⟨⟨c5, rfl⟩, s6⟩
      unfold whoT at hx
      rw [List.getElem?_map] at hx
      obtain ⟨y, _, rfl⟩ := Option.map_eq_some_iff.mp hx
      exact ⟨_, rfl, _, rfl, true, rfl, iteF ⟨⟨_, rfl⟩, s6⟩⟩
    · rintro σ H6 ⟨⟨c5, rfl⟩, s6⟩
      have s36 := s45.trans s6
      exact rT _ _ _ _ _ _ _ _ _ N a js H6 (n3.same s36) (jt3.same s36) oks q
end
end K7

set_option Elab.async false
set_option linter.all false
set_option maxRecDepth 100000
set_option maxHeartbeats 4000000
namespace K7
open PySem PySem.Spec PyProof.Rows L2 GX NdefX
theorem exm_of {K : PySem.W.Frag} {S C : Addr} {b : Bool} (h1 : PySem.W.subIn K (.ref C) (.type "BaseException") = some true) (h2 : PySem.W.isClsIn K C = true) (h3 : PySem.W.typeIn K (.ref C) = some (.type "type")) (h4 : PySem.W.subIn K (.ref S) (.ref C) = some b) :
    PySem.W.exmOne K (.ref S) (.ref C) = some b := by
  have e1 : (PySem.W.subIn K (.ref C) (.type "BaseException") == some true) = true := by rw [h1] <;> rfl
  have e2 : ((PySem.W.clsIn K C).isSome && PySem.W.typeIn K (.ref C) == some (.type "type")) = true := by
    have h2' : (PySem.W.clsIn K C).isSome = true := h2
    rw [h2', h3] <;> rfl
  show (if (PySem.W.subIn K (.ref C) (.type "BaseException") == some true) = true then (if ((PySem.W.clsIn K C).isSome && PySem.W.typeIn K (.ref C) == some (.type "type")) = true then PySem.W.subIn K (.ref S) (.ref C) else none) else none) = some b
  rw [if_pos e1, if_pos e2]
  exact h4
theorem all_mk {P : Program} {w : World} {K : PySem.W.Frag} {h : Heap} {mg : Str → Option Value} {fa : Addr} (X : K.In h) (G : h.Ns mainGlobals mg) (hfa : mg "law" = some (.ref fa))
    {KClock gClock_init gClock_run_tick : Addr}
    {ocClock_init kVClock_init dcClock_init pmClock_init cdClock_init ctClock_init ocClock_run_tick kVClock_run_tick dcClock_run_tick pmClock_run_tick cdClock_run_tick ctClock_run_tick : Value}
    {odClock_init anClock_init odClock_run_tick anClock_run_tick : Option Addr}
    {slClock_init slClock_run_tick : Array (Option Value)}
    {fpis_whole fpis_listed fpis_time fpcheck_jobs fpcheck_place fpsettled fpwho_runs fpfirst_miss fpjob_ends fp_law_numbers fp_law_draw fp_law_int fp_law_jobs fp_law_come fp_law_run fp_law_who fp_law_common fp_law_missed fp_law_missed_at fp_law_ends fp_law_refusal fp_law_refusals_fit flaw ARungsError CBadNumber iBadNumber ccBadNumber cdaBadNumber NBadNumber CTooMany iTooMany ccTooMany cdaTooMany NTooMany : Addr}
    {ocpis_whole kVpis_whole dcpis_whole pmpis_whole cdpis_whole ctpis_whole ocpis_listed kVpis_listed dcpis_listed pmpis_listed cdpis_listed ctpis_listed ocpis_time kVpis_time dcpis_time pmpis_time cdpis_time ctpis_time ocpcheck_jobs kVpcheck_jobs dcpcheck_jobs pmpcheck_jobs cdpcheck_jobs ctpcheck_jobs ocpcheck_place kVpcheck_place dcpcheck_place pmpcheck_place cdpcheck_place ctpcheck_place ocpsettled kVpsettled dcpsettled pmpsettled cdpsettled ctpsettled ocpwho_runs kVpwho_runs dcpwho_runs pmpwho_runs cdpwho_runs ctpwho_runs ocpfirst_miss kVpfirst_miss dcpfirst_miss pmpfirst_miss cdpfirst_miss ctpfirst_miss ocpjob_ends kVpjob_ends dcpjob_ends pmpjob_ends cdpjob_ends ctpjob_ends ocp_law_numbers kVp_law_numbers dcp_law_numbers pmp_law_numbers cdp_law_numbers ctp_law_numbers ocp_law_draw kVp_law_draw dcp_law_draw pmp_law_draw cdp_law_draw ctp_law_draw ocp_law_int kVp_law_int dcp_law_int pmp_law_int cdp_law_int ctp_law_int ocp_law_jobs kVp_law_jobs dcp_law_jobs pmp_law_jobs cdp_law_jobs ctp_law_jobs ocp_law_come kVp_law_come dcp_law_come pmp_law_come cdp_law_come ctp_law_come ocp_law_run kVp_law_run dcp_law_run pmp_law_run cdp_law_run ctp_law_run ocp_law_who kVp_law_who dcp_law_who pmp_law_who cdp_law_who ctp_law_who ocp_law_common kVp_law_common dcp_law_common pmp_law_common cdp_law_common ctp_law_common ocp_law_missed kVp_law_missed dcp_law_missed pmp_law_missed cdp_law_missed ctp_law_missed ocp_law_missed_at kVp_law_missed_at dcp_law_missed_at pmp_law_missed_at cdp_law_missed_at ctp_law_missed_at ocp_law_ends kVp_law_ends dcp_law_ends pmp_law_ends cdp_law_ends ctp_law_ends ocp_law_refusal kVp_law_refusal dcp_law_refusal pmp_law_refusal cdp_law_refusal ctp_law_refusal ocp_law_refusals_fit kVp_law_refusals_fit dcp_law_refusals_fit pmp_law_refusals_fit cdp_law_refusals_fit ctp_law_refusals_fit oclaw kVlaw dclaw pmlaw cdlaw ctlaw oiBadNumber kViBadNumber dciBadNumber pmiBadNumber ctiBadNumber cclBadNumber clBadNumber oiTooMany kViTooMany dciTooMany pmiTooMany ctiTooMany cclTooMany clTooMany : Value}
    {odpis_whole anpis_whole odpis_listed anpis_listed odpis_time anpis_time odpcheck_jobs anpcheck_jobs odpcheck_place anpcheck_place odpsettled anpsettled odpwho_runs anpwho_runs odpfirst_miss anpfirst_miss odpjob_ends anpjob_ends odp_law_numbers anp_law_numbers odp_law_draw anp_law_draw odp_law_int anp_law_int odp_law_jobs anp_law_jobs odp_law_come anp_law_come odp_law_run anp_law_run odp_law_who anp_law_who odp_law_common anp_law_common odp_law_missed anp_law_missed odp_law_missed_at anp_law_missed_at odp_law_ends anp_law_ends odp_law_refusal anp_law_refusal odp_law_refusals_fit anp_law_refusals_fit odlaw anlaw diBadNumber aniBadNumber cddBadNumber cldBadNumber ddBadNumber diTooMany aniTooMany cddTooMany cldTooMany ddTooMany : Option Addr}
    {slpis_whole slpis_listed slpis_time slpcheck_jobs slpcheck_place slpsettled slpwho_runs slpfirst_miss slpjob_ends slp_law_numbers slp_law_draw slp_law_int slp_law_jobs slp_law_come slp_law_run slp_law_who slp_law_common slp_law_missed slp_law_missed_at slp_law_ends slp_law_refusal slp_law_refusals_fit sllaw sliBadNumber ccsBadNumber cslBadNumber sliTooMany ccsTooMany cslTooMany : Array (Option Value)}
    {vsBadNumber vsTooMany : Array Value}
    {tfBadNumber tfTooMany : Tok}
    {nmBadNumber qBadNumber fileBadNumber nmTooMany qTooMany fileTooMany : Str}
    {bsBadNumber subBadNumber bsTooMany subTooMany : List Value}
    {snBadNumber snTooMany : List Str}
    {abBadNumber abTooMany : Bool}
    {colBadNumber colTooMany : Option Bool}
    {m0BadNumber m1BadNumber m2BadNumber m3BadNumber m5BadNumber m0TooMany m1TooMany m2TooMany m3TooMany m5TooMany : Option Value}
    
    (apis_whole : PySem.W.nsIn K mainGlobals "is_whole" = some (some (.ref fpis_whole)))
    (lpis_whole : K.lookup fpis_whole = some ⟨ocpis_whole, odpis_whole, .func (PySem.W.fnOf "is_whole" "is_whole" (defArgs s_is_whole) (defBody s_is_whole) (defScope s_is_whole) .none kVpis_whole dcpis_whole pmpis_whole anpis_whole cdpis_whole ctpis_whole), slpis_whole⟩)
    (cpis_whole : PySem.W.codeIn K cdpis_whole "is_whole" = true)
    (kpis_whole : PySem.W.keepIn K (.ref fpis_whole) = true)
    (apis_listed : PySem.W.nsIn K mainGlobals "is_listed" = some (some (.ref fpis_listed)))
    (lpis_listed : K.lookup fpis_listed = some ⟨ocpis_listed, odpis_listed, .func (PySem.W.fnOf "is_listed" "is_listed" (defArgs s_is_listed) (defBody s_is_listed) (defScope s_is_listed) .none kVpis_listed dcpis_listed pmpis_listed anpis_listed cdpis_listed ctpis_listed), slpis_listed⟩)
    (cpis_listed : PySem.W.codeIn K cdpis_listed "is_listed" = true)
    (kpis_listed : PySem.W.keepIn K (.ref fpis_listed) = true)
    (apis_time : PySem.W.nsIn K mainGlobals "is_time" = some (some (.ref fpis_time)))
    (lpis_time : K.lookup fpis_time = some ⟨ocpis_time, odpis_time, .func (PySem.W.fnOf "is_time" "is_time" (defArgs s_is_time) (defBody s_is_time) (defScope s_is_time) .none kVpis_time dcpis_time pmpis_time anpis_time cdpis_time ctpis_time), slpis_time⟩)
    (cpis_time : PySem.W.codeIn K cdpis_time "is_time" = true)
    (kpis_time : PySem.W.keepIn K (.ref fpis_time) = true)
    (apcheck_jobs : PySem.W.nsIn K mainGlobals "check_jobs" = some (some (.ref fpcheck_jobs)))
    (lpcheck_jobs : K.lookup fpcheck_jobs = some ⟨ocpcheck_jobs, odpcheck_jobs, .func (PySem.W.fnOf "check_jobs" "check_jobs" (defArgs s_check_jobs) (defBody s_check_jobs) (defScope s_check_jobs) .none kVpcheck_jobs dcpcheck_jobs pmpcheck_jobs anpcheck_jobs cdpcheck_jobs ctpcheck_jobs), slpcheck_jobs⟩)
    (cpcheck_jobs : PySem.W.codeIn K cdpcheck_jobs "check_jobs" = true)
    (kpcheck_jobs : PySem.W.keepIn K (.ref fpcheck_jobs) = true)
    (apcheck_place : PySem.W.nsIn K mainGlobals "check_place" = some (some (.ref fpcheck_place)))
    (lpcheck_place : K.lookup fpcheck_place = some ⟨ocpcheck_place, odpcheck_place, .func (PySem.W.fnOf "check_place" "check_place" (defArgs s_check_place) (defBody s_check_place) (defScope s_check_place) .none kVpcheck_place dcpcheck_place pmpcheck_place anpcheck_place cdpcheck_place ctpcheck_place), slpcheck_place⟩)
    (cpcheck_place : PySem.W.codeIn K cdpcheck_place "check_place" = true)
    (kpcheck_place : PySem.W.keepIn K (.ref fpcheck_place) = true)
    (apsettled : PySem.W.nsIn K mainGlobals "settled" = some (some (.ref fpsettled)))
    (lpsettled : K.lookup fpsettled = some ⟨ocpsettled, odpsettled, .func (PySem.W.fnOf "settled" "settled" (defArgs s_settled) (defBody s_settled) (defScope s_settled) .none kVpsettled dcpsettled pmpsettled anpsettled cdpsettled ctpsettled), slpsettled⟩)
    (cpsettled : PySem.W.codeIn K cdpsettled "settled" = true)
    (kpsettled : PySem.W.keepIn K (.ref fpsettled) = true)
    (apwho_runs : PySem.W.nsIn K mainGlobals "who_runs" = some (some (.ref fpwho_runs)))
    (lpwho_runs : K.lookup fpwho_runs = some ⟨ocpwho_runs, odpwho_runs, .func (PySem.W.fnOf "who_runs" "who_runs" (defArgs s_who_runs) (defBody s_who_runs) (defScope s_who_runs) .none kVpwho_runs dcpwho_runs pmpwho_runs anpwho_runs cdpwho_runs ctpwho_runs), slpwho_runs⟩)
    (cpwho_runs : PySem.W.codeIn K cdpwho_runs "who_runs" = true)
    (kpwho_runs : PySem.W.keepIn K (.ref fpwho_runs) = true)
    (apfirst_miss : PySem.W.nsIn K mainGlobals "first_miss" = some (some (.ref fpfirst_miss)))
    (lpfirst_miss : K.lookup fpfirst_miss = some ⟨ocpfirst_miss, odpfirst_miss, .func (PySem.W.fnOf "first_miss" "first_miss" (defArgs s_first_miss) (defBody s_first_miss) (defScope s_first_miss) .none kVpfirst_miss dcpfirst_miss pmpfirst_miss anpfirst_miss cdpfirst_miss ctpfirst_miss), slpfirst_miss⟩)
    (cpfirst_miss : PySem.W.codeIn K cdpfirst_miss "first_miss" = true)
    (kpfirst_miss : PySem.W.keepIn K (.ref fpfirst_miss) = true)
    (apjob_ends : PySem.W.nsIn K mainGlobals "job_ends" = some (some (.ref fpjob_ends)))
    (lpjob_ends : K.lookup fpjob_ends = some ⟨ocpjob_ends, odpjob_ends, .func (PySem.W.fnOf "job_ends" "job_ends" (defArgs s_job_ends) (defBody s_job_ends) (defScope s_job_ends) .none kVpjob_ends dcpjob_ends pmpjob_ends anpjob_ends cdpjob_ends ctpjob_ends), slpjob_ends⟩)
    (cpjob_ends : PySem.W.codeIn K cdpjob_ends "job_ends" = true)
    (kpjob_ends : PySem.W.keepIn K (.ref fpjob_ends) = true)
    (ap_law_numbers : PySem.W.nsIn K mainGlobals "_law_numbers" = some (some (.ref fp_law_numbers)))
    (lp_law_numbers : K.lookup fp_law_numbers = some ⟨ocp_law_numbers, odp_law_numbers, .func (PySem.W.fnOf "_law_numbers" "_law_numbers" (defArgs s__law_numbers) (defBody s__law_numbers) (defScope s__law_numbers) .none kVp_law_numbers dcp_law_numbers pmp_law_numbers anp_law_numbers cdp_law_numbers ctp_law_numbers), slp_law_numbers⟩)
    (cp_law_numbers : PySem.W.codeIn K cdp_law_numbers "_law_numbers" = true)
    (kp_law_numbers : PySem.W.keepIn K (.ref fp_law_numbers) = true)
    (ap_law_draw : PySem.W.nsIn K mainGlobals "_law_draw" = some (some (.ref fp_law_draw)))
    (lp_law_draw : K.lookup fp_law_draw = some ⟨ocp_law_draw, odp_law_draw, .func (PySem.W.fnOf "_law_draw" "_law_draw" (defArgs s__law_draw) (defBody s__law_draw) (defScope s__law_draw) .none kVp_law_draw dcp_law_draw pmp_law_draw anp_law_draw cdp_law_draw ctp_law_draw), slp_law_draw⟩)
    (cp_law_draw : PySem.W.codeIn K cdp_law_draw "_law_draw" = true)
    (kp_law_draw : PySem.W.keepIn K (.ref fp_law_draw) = true)
    (ap_law_int : PySem.W.nsIn K mainGlobals "_law_int" = some (some (.ref fp_law_int)))
    (lp_law_int : K.lookup fp_law_int = some ⟨ocp_law_int, odp_law_int, .func (PySem.W.fnOf "_law_int" "_law_int" (defArgs s__law_int) (defBody s__law_int) (defScope s__law_int) .none kVp_law_int dcp_law_int pmp_law_int anp_law_int cdp_law_int ctp_law_int), slp_law_int⟩)
    (cp_law_int : PySem.W.codeIn K cdp_law_int "_law_int" = true)
    (kp_law_int : PySem.W.keepIn K (.ref fp_law_int) = true)
    (ap_law_jobs : PySem.W.nsIn K mainGlobals "_law_jobs" = some (some (.ref fp_law_jobs)))
    (lp_law_jobs : K.lookup fp_law_jobs = some ⟨ocp_law_jobs, odp_law_jobs, .func (PySem.W.fnOf "_law_jobs" "_law_jobs" (defArgs s__law_jobs) (defBody s__law_jobs) (defScope s__law_jobs) .none kVp_law_jobs dcp_law_jobs pmp_law_jobs anp_law_jobs cdp_law_jobs ctp_law_jobs), slp_law_jobs⟩)
    (cp_law_jobs : PySem.W.codeIn K cdp_law_jobs "_law_jobs" = true)
    (kp_law_jobs : PySem.W.keepIn K (.ref fp_law_jobs) = true)
    (ap_law_come : PySem.W.nsIn K mainGlobals "_law_come" = some (some (.ref fp_law_come)))
    (lp_law_come : K.lookup fp_law_come = some ⟨ocp_law_come, odp_law_come, .func (PySem.W.fnOf "_law_come" "_law_come" (defArgs s__law_come) (defBody s__law_come) (defScope s__law_come) .none kVp_law_come dcp_law_come pmp_law_come anp_law_come cdp_law_come ctp_law_come), slp_law_come⟩)
    (cp_law_come : PySem.W.codeIn K cdp_law_come "_law_come" = true)
    (kp_law_come : PySem.W.keepIn K (.ref fp_law_come) = true)
    (ap_law_run : PySem.W.nsIn K mainGlobals "_law_run" = some (some (.ref fp_law_run)))
    (lp_law_run : K.lookup fp_law_run = some ⟨ocp_law_run, odp_law_run, .func (PySem.W.fnOf "_law_run" "_law_run" (defArgs s__law_run) (defBody s__law_run) (defScope s__law_run) .none kVp_law_run dcp_law_run pmp_law_run anp_law_run cdp_law_run ctp_law_run), slp_law_run⟩)
    (cp_law_run : PySem.W.codeIn K cdp_law_run "_law_run" = true)
    (kp_law_run : PySem.W.keepIn K (.ref fp_law_run) = true)
    (ap_law_who : PySem.W.nsIn K mainGlobals "_law_who" = some (some (.ref fp_law_who)))
    (lp_law_who : K.lookup fp_law_who = some ⟨ocp_law_who, odp_law_who, .func (PySem.W.fnOf "_law_who" "_law_who" (defArgs s__law_who) (defBody s__law_who) (defScope s__law_who) .none kVp_law_who dcp_law_who pmp_law_who anp_law_who cdp_law_who ctp_law_who), slp_law_who⟩)
    (cp_law_who : PySem.W.codeIn K cdp_law_who "_law_who" = true)
    (kp_law_who : PySem.W.keepIn K (.ref fp_law_who) = true)
    (ap_law_common : PySem.W.nsIn K mainGlobals "_law_common" = some (some (.ref fp_law_common)))
    (lp_law_common : K.lookup fp_law_common = some ⟨ocp_law_common, odp_law_common, .func (PySem.W.fnOf "_law_common" "_law_common" (defArgs s__law_common) (defBody s__law_common) (defScope s__law_common) .none kVp_law_common dcp_law_common pmp_law_common anp_law_common cdp_law_common ctp_law_common), slp_law_common⟩)
    (cp_law_common : PySem.W.codeIn K cdp_law_common "_law_common" = true)
    (kp_law_common : PySem.W.keepIn K (.ref fp_law_common) = true)
    (ap_law_missed : PySem.W.nsIn K mainGlobals "_law_missed" = some (some (.ref fp_law_missed)))
    (lp_law_missed : K.lookup fp_law_missed = some ⟨ocp_law_missed, odp_law_missed, .func (PySem.W.fnOf "_law_missed" "_law_missed" (defArgs s__law_missed) (defBody s__law_missed) (defScope s__law_missed) .none kVp_law_missed dcp_law_missed pmp_law_missed anp_law_missed cdp_law_missed ctp_law_missed), slp_law_missed⟩)
    (cp_law_missed : PySem.W.codeIn K cdp_law_missed "_law_missed" = true)
    (kp_law_missed : PySem.W.keepIn K (.ref fp_law_missed) = true)
    (ap_law_missed_at : PySem.W.nsIn K mainGlobals "_law_missed_at" = some (some (.ref fp_law_missed_at)))
    (lp_law_missed_at : K.lookup fp_law_missed_at = some ⟨ocp_law_missed_at, odp_law_missed_at, .func (PySem.W.fnOf "_law_missed_at" "_law_missed_at" (defArgs s__law_missed_at) (defBody s__law_missed_at) (defScope s__law_missed_at) .none kVp_law_missed_at dcp_law_missed_at pmp_law_missed_at anp_law_missed_at cdp_law_missed_at ctp_law_missed_at), slp_law_missed_at⟩)
    (cp_law_missed_at : PySem.W.codeIn K cdp_law_missed_at "_law_missed_at" = true)
    (kp_law_missed_at : PySem.W.keepIn K (.ref fp_law_missed_at) = true)
    (ap_law_ends : PySem.W.nsIn K mainGlobals "_law_ends" = some (some (.ref fp_law_ends)))
    (lp_law_ends : K.lookup fp_law_ends = some ⟨ocp_law_ends, odp_law_ends, .func (PySem.W.fnOf "_law_ends" "_law_ends" (defArgs s__law_ends) (defBody s__law_ends) (defScope s__law_ends) .none kVp_law_ends dcp_law_ends pmp_law_ends anp_law_ends cdp_law_ends ctp_law_ends), slp_law_ends⟩)
    (cp_law_ends : PySem.W.codeIn K cdp_law_ends "_law_ends" = true)
    (kp_law_ends : PySem.W.keepIn K (.ref fp_law_ends) = true)
    (ap_law_refusal : PySem.W.nsIn K mainGlobals "_law_refusal" = some (some (.ref fp_law_refusal)))
    (lp_law_refusal : K.lookup fp_law_refusal = some ⟨ocp_law_refusal, odp_law_refusal, .func (PySem.W.fnOf "_law_refusal" "_law_refusal" (defArgs s__law_refusal) (defBody s__law_refusal) (defScope s__law_refusal) .none kVp_law_refusal dcp_law_refusal pmp_law_refusal anp_law_refusal cdp_law_refusal ctp_law_refusal), slp_law_refusal⟩)
    (cp_law_refusal : PySem.W.codeIn K cdp_law_refusal "_law_refusal" = true)
    (kp_law_refusal : PySem.W.keepIn K (.ref fp_law_refusal) = true)
    (ap_law_refusals_fit : PySem.W.nsIn K mainGlobals "_law_refusals_fit" = some (some (.ref fp_law_refusals_fit)))
    (lp_law_refusals_fit : K.lookup fp_law_refusals_fit = some ⟨ocp_law_refusals_fit, odp_law_refusals_fit, .func (PySem.W.fnOf "_law_refusals_fit" "_law_refusals_fit" (defArgs s__law_refusals_fit) (defBody s__law_refusals_fit) (defScope s__law_refusals_fit) .none kVp_law_refusals_fit dcp_law_refusals_fit pmp_law_refusals_fit anp_law_refusals_fit cdp_law_refusals_fit ctp_law_refusals_fit), slp_law_refusals_fit⟩)
    (cp_law_refusals_fit : PySem.W.codeIn K cdp_law_refusals_fit "_law_refusals_fit" = true)
    (kp_law_refusals_fit : PySem.W.keepIn K (.ref fp_law_refusals_fit) = true)
    (alaw : PySem.W.nsIn K mainGlobals "law" = some (some (.ref flaw)))
    (llaw : K.lookup flaw = some ⟨oclaw, odlaw, .func (PySem.W.fnOf "law" "law" (defArgs s_law) (defBody s_law) (defScope s_law) .none kVlaw dclaw pmlaw anlaw cdlaw ctlaw), sllaw⟩)
    (claw : PySem.W.codeIn K cdlaw "law" = true)
    (klaw : PySem.W.keepIn K (.ref flaw) = true)
    (zbool : PySem.W.nsIn K mainGlobals "bool" = some none)
    (zenumerate : PySem.W.nsIn K mainGlobals "enumerate" = some none)
    (zint : PySem.W.nsIn K mainGlobals "int" = some none)
    (zisinstance : PySem.W.nsIn K mainGlobals "isinstance" = some none)
    (zlen : PySem.W.nsIn K mainGlobals "len" = some none)
    (zlist : PySem.W.nsIn K mainGlobals "list" = some none)
    (zmin : PySem.W.nsIn K mainGlobals "min" = some none)
    (zrange : PySem.W.nsIn K mainGlobals "range" = some none)
    (zstr : PySem.W.nsIn K mainGlobals "str" = some none)
    (zsuper : PySem.W.nsIn K mainGlobals "super" = some none)
    (ztuple : PySem.W.nsIn K mainGlobals "tuple" = some none)
    (imlcm : PySem.W.nsIn K mainGlobals "lcm" = some (some (.builtin "math.lcm")))
    (gARungsError : PySem.W.nsIn K mainGlobals "RungsError" = some (some (.ref ARungsError)))
    (gxBadNumber : PySem.W.nsIn K mainGlobals "BadNumber" = some (some (.ref CBadNumber)))
    (xlBadNumber : K.lookup CBadNumber = some (excClassObj nmBadNumber qBadNumber CBadNumber NBadNumber bsBadNumber [.ref ARungsError, .type "ValueError", .type "Exception", .type "BaseException", .type "object"] true snBadNumber subBadNumber abBadNumber colBadNumber ddBadNumber m0BadNumber m1BadNumber m2BadNumber m3BadNumber m5BadNumber "ValueError.__new__"))
    (saBadNumber : PySem.W.findIn K (.ref CBadNumber) "__setattr__" = some (some (.builtin "object.__setattr__")))
    (gaBadNumber : PySem.W.findIn K (.ref CBadNumber) "__getattribute__" = some (some (.builtin "BaseException.__getattribute__")))
    (ggBadNumber : PySem.W.findIn K (.ref CBadNumber) "__getattr__" = some none)
    (ebBadNumber : PySem.W.subIn K (.ref CBadNumber) (.type "BaseException") = some true)
    (tyBadNumber : PySem.W.typeIn K (.ref CBadNumber) = some (.type "type"))
    (kcBadNumber : PySem.W.keepIn K (.ref CBadNumber) = true)
    (hdBadNumber : PySem.W.hasDictIn K CBadNumber = true)
    (icBadNumber : PySem.W.isClsIn K CBadNumber = true)
    (inBadNumber : PySem.W.findIn K (.ref CBadNumber) "__init__" = some (some (.ref iBadNumber)))
    (tiBadNumber : PySem.W.typeIn K (.ref iBadNumber) = some (.type "function"))
    (liBadNumber : K.lookup iBadNumber = some ⟨oiBadNumber, diBadNumber, .func (PySem.W.fnX "__init__" "BadNumber.__init__" (defArgs s_BadNumber_init) (defBody s_BadNumber_init) (defScope s_BadNumber_init) [("__class__", ccBadNumber)] .none kViBadNumber dciBadNumber pmiBadNumber aniBadNumber (.ref cdaBadNumber) ctiBadNumber), sliBadNumber⟩)
    (ciBadNumber : PySem.W.codeIn K (.ref cdaBadNumber) "BadNumber.__init__" = true)
    (ldBadNumber : K.lookup cdaBadNumber = some ⟨cclBadNumber, cddBadNumber, .fields vsBadNumber, ccsBadNumber⟩)
    (vfBadNumber : vsBadNumber[2]? = some (.str fileBadNumber tfBadNumber))
    (hfBadNumber : ((P.main.file : Str) == fileBadNumber) = true)
    (lcBadNumber : K.lookup ccBadNumber = some ⟨clBadNumber, cldBadNumber, .cell (some (.ref CBadNumber)), cslBadNumber⟩)
    (suBadNumber : PySem.W.ks_superIn K CBadNumber CBadNumber "__init__" = some (some (.builtin "ValueError.__init__")))
    (veBadNumber : PySem.W.subIn K (.ref CBadNumber) (.type "ValueError") = some true)
    (mrBadNumber : PySem.W.mroIn K CBadNumber (.ref CBadNumber) = some true)
    (nwordBadNumber : PySem.W.findIn K (.ref CBadNumber) "word" = some none)
    (gxTooMany : PySem.W.nsIn K mainGlobals "TooMany" = some (some (.ref CTooMany)))
    (xlTooMany : K.lookup CTooMany = some (excClassObj nmTooMany qTooMany CTooMany NTooMany bsTooMany [.ref ARungsError, .type "ValueError", .type "Exception", .type "BaseException", .type "object"] true snTooMany subTooMany abTooMany colTooMany ddTooMany m0TooMany m1TooMany m2TooMany m3TooMany m5TooMany "ValueError.__new__"))
    (saTooMany : PySem.W.findIn K (.ref CTooMany) "__setattr__" = some (some (.builtin "object.__setattr__")))
    (gaTooMany : PySem.W.findIn K (.ref CTooMany) "__getattribute__" = some (some (.builtin "BaseException.__getattribute__")))
    (ggTooMany : PySem.W.findIn K (.ref CTooMany) "__getattr__" = some none)
    (ebTooMany : PySem.W.subIn K (.ref CTooMany) (.type "BaseException") = some true)
    (tyTooMany : PySem.W.typeIn K (.ref CTooMany) = some (.type "type"))
    (kcTooMany : PySem.W.keepIn K (.ref CTooMany) = true)
    (hdTooMany : PySem.W.hasDictIn K CTooMany = true)
    (icTooMany : PySem.W.isClsIn K CTooMany = true)
    (inTooMany : PySem.W.findIn K (.ref CTooMany) "__init__" = some (some (.ref iTooMany)))
    (tiTooMany : PySem.W.typeIn K (.ref iTooMany) = some (.type "function"))
    (liTooMany : K.lookup iTooMany = some ⟨oiTooMany, diTooMany, .func (PySem.W.fnX "__init__" "TooMany.__init__" (defArgs s_TooMany_init) (defBody s_TooMany_init) (defScope s_TooMany_init) [("__class__", ccTooMany)] .none kViTooMany dciTooMany pmiTooMany aniTooMany (.ref cdaTooMany) ctiTooMany), sliTooMany⟩)
    (ciTooMany : PySem.W.codeIn K (.ref cdaTooMany) "TooMany.__init__" = true)
    (ldTooMany : K.lookup cdaTooMany = some ⟨cclTooMany, cddTooMany, .fields vsTooMany, ccsTooMany⟩)
    (vfTooMany : vsTooMany[2]? = some (.str fileTooMany tfTooMany))
    (hfTooMany : ((P.main.file : Str) == fileTooMany) = true)
    (lcTooMany : K.lookup ccTooMany = some ⟨clTooMany, cldTooMany, .cell (some (.ref CTooMany)), cslTooMany⟩)
    (suTooMany : PySem.W.ks_superIn K CTooMany CTooMany "__init__" = some (some (.builtin "ValueError.__init__")))
    (veTooMany : PySem.W.subIn K (.ref CTooMany) (.type "ValueError") = some true)
    (mrTooMany : PySem.W.mroIn K CTooMany (.ref CTooMany) = some true)
    (nlimitTooMany : PySem.W.findIn K (.ref CTooMany) "limit" = some none)
    (kgClock : PySem.W.nsIn K mainGlobals "Clock" = some (some (.ref KClock)))
    (kpgClock : PySem.W.plainGet K KClock Str.empty = true)
    (khdClock : PySem.W.hasDictIn K KClock = true)
    (kpoClock : PySem.W.plainOver K KClock = true)
    (ksaClock : PySem.W.findIn K (.ref KClock) "__setattr__" = some (some (.builtin "object.__setattr__")))
    (kmkClock : PySem.W.makesIn K KClock = true)
    (kkcClock : PySem.W.keepIn K (.ref KClock) = true)
    (knClockjobs : PySem.W.findIn K (.ref KClock) "jobs" = some none)
    (knClocktick : PySem.W.findIn K (.ref KClock) "tick" = some none)
    (knClockleft : PySem.W.findIn K (.ref KClock) "left" = some none)
    (knClockmissed : PySem.W.findIn K (.ref KClock) "missed" = some none)
    (maClock_init : PySem.W.findIn K (.ref KClock) "__init__" = some (some (.ref gClock_init)))
    (miClock_init : PySem.W.isFn K (.ref gClock_init) = true)
    (mlClock_init : K.lookup gClock_init = some ⟨ocClock_init, odClock_init, .func (PySem.W.fnOf "__init__" "Clock.__init__" (defArgs s_Clock_init) (defBody s_Clock_init) (defScope s_Clock_init) .none kVClock_init dcClock_init pmClock_init anClock_init cdClock_init ctClock_init), slClock_init⟩)
    (mcClock_init : PySem.W.codeIn K cdClock_init "Clock.__init__" = true)
    (mkClock_init : PySem.W.keepIn K (.ref gClock_init) = true)
    (maClock_run_tick : PySem.W.findIn K (.ref KClock) "run_tick" = some (some (.ref gClock_run_tick)))
    (miClock_run_tick : PySem.W.isFn K (.ref gClock_run_tick) = true)
    (mlClock_run_tick : K.lookup gClock_run_tick = some ⟨ocClock_run_tick, odClock_run_tick, .func (PySem.W.fnOf "run_tick" "Clock.run_tick" (defArgs s_Clock_run_tick) (defBody s_Clock_run_tick) (defScope s_Clock_run_tick) .none kVClock_run_tick dcClock_run_tick pmClock_run_tick anClock_run_tick cdClock_run_tick ctClock_run_tick), slClock_run_tick⟩)
    (mcClock_run_tick : PySem.W.codeIn K cdClock_run_tick "Clock.run_tick" = true)
    (mkClock_run_tick : PySem.W.keepIn K (.ref gClock_run_tick) = true)
    (opq : PySem.W.nsIn K cStatics "thirdparty.any" = some none)
    (sBadNumberBadNumber : PySem.W.subIn K (.ref CBadNumber) (.ref CBadNumber) = some true)
    (sBadNumberTooMany : PySem.W.subIn K (.ref CBadNumber) (.ref CTooMany) = some false)
    (sTooManyBadNumber : PySem.W.subIn K (.ref CTooMany) (.ref CBadNumber) = some false)
    (sTooManyTooMany : PySem.W.subIn K (.ref CTooMany) (.ref CTooMany) = some true)
    (top : (P.main.scope.names.lookup ("super" : Str)).isSome = false) :
    ∃ fd : FuncData, (∀ (s : Shared) (v : Value), BindsTo s fd ⟨[v], []⟩ [("script", v)]) ∧ ∀ base : Heap, K.In base → base.Ns mainGlobals mg → FnOk P w K mg base (CX P w) 7 fa fd ["script"] (spLaw K) := by
  have e := hfa.symm.trans (PySem.W.mg_of X G alaw)
  cases e
  have Fpis_whole := fun_mk (st := s_is_whole) lpis_whole cpis_whole kpis_whole
  have bpis_whole := Fpis_whole.binds (ps := ["value", "least", "most"]) fun _ _ _ _ _ _ us hl => match us, hl with | [_, _, _], _ => rfl
  have Fpis_listed := fun_mk (st := s_is_listed) lpis_listed cpis_listed kpis_listed
  have bpis_listed := Fpis_listed.binds (ps := ["value"]) fun _ _ _ _ _ _ us hl => match us, hl with | [_], _ => rfl
  have Fpis_time := fun_mk (st := s_is_time) lpis_time cpis_time kpis_time
  have bpis_time := Fpis_time.binds (ps := ["period", "offset", "most"]) fun _ _ _ _ _ _ us hl => match us, hl with | [_, _, _], _ => rfl
  have Fpcheck_jobs := fun_mk (st := s_check_jobs) lpcheck_jobs cpcheck_jobs kpcheck_jobs
  have bpcheck_jobs := Fpcheck_jobs.binds (ps := ["jobs"]) fun _ _ _ _ _ _ us hl => match us, hl with | [_], _ => rfl
  have Fpcheck_place := fun_mk (st := s_check_place) lpcheck_place cpcheck_place kpcheck_place
  have bpcheck_place := Fpcheck_place.binds (ps := ["jobs", "place"]) fun _ _ _ _ _ _ us hl => match us, hl with | [_, _], _ => rfl
  have Fpsettled := fun_mk (st := s_settled) lpsettled cpsettled kpsettled
  have bpsettled := Fpsettled.binds (ps := ["jobs"]) fun _ _ _ _ _ _ us hl => match us, hl with | [_], _ => rfl
  have Fpwho_runs := fun_mk (st := s_who_runs) lpwho_runs cpwho_runs kpwho_runs
  have bpwho_runs := Fpwho_runs.binds (ps := ["jobs", "ticks"]) fun _ _ _ _ _ _ us hl => match us, hl with | [_, _], _ => rfl
  have Fpfirst_miss := fun_mk (st := s_first_miss) lpfirst_miss cpfirst_miss kpfirst_miss
  have bpfirst_miss := Fpfirst_miss.binds (ps := ["jobs"]) fun _ _ _ _ _ _ us hl => match us, hl with | [_], _ => rfl
  have Fpjob_ends := fun_mk (st := s_job_ends) lpjob_ends cpjob_ends kpjob_ends
  have bpjob_ends := Fpjob_ends.binds (ps := ["jobs", "place", "many"]) fun _ _ _ _ _ _ us hl => match us, hl with | [_, _, _], _ => rfl
  have Fp_law_numbers := fun_mk (st := s__law_numbers) lp_law_numbers cp_law_numbers kp_law_numbers
  have bp_law_numbers := Fp_law_numbers.binds (ps := ["script"]) fun _ _ _ _ _ _ us hl => match us, hl with | [_], _ => rfl
  have Fp_law_draw := fun_mk (st := s__law_draw) lp_law_draw cp_law_draw kp_law_draw
  have bp_law_draw := Fp_law_draw.binds (ps := ["numbers", "many"]) fun _ _ _ _ _ _ us hl => match us, hl with | [_, _], _ => rfl
  have Fp_law_int := fun_mk (st := s__law_int) lp_law_int cp_law_int kp_law_int
  have bp_law_int := Fp_law_int.binds (ps := ["value"]) fun _ _ _ _ _ _ us hl => match us, hl with | [_], _ => rfl
  have Fp_law_jobs := fun_mk (st := s__law_jobs) lp_law_jobs cp_law_jobs kp_law_jobs
  have bp_law_jobs := Fp_law_jobs.binds (ps := ["numbers"]) fun _ _ _ _ _ _ us hl => match us, hl with | [_], _ => rfl
  have Fp_law_come := fun_mk (st := s__law_come) lp_law_come cp_law_come kp_law_come
  have bp_law_come := Fp_law_come.binds (ps := ["jobs", "left", "tick"]) fun _ _ _ _ _ _ us hl => match us, hl with | [_, _, _], _ => rfl
  have Fp_law_run := fun_mk (st := s__law_run) lp_law_run cp_law_run kp_law_run
  have bp_law_run := Fp_law_run.binds (ps := ["left"]) fun _ _ _ _ _ _ us hl => match us, hl with | [_], _ => rfl
  have Fp_law_who := fun_mk (st := s__law_who) lp_law_who cp_law_who kp_law_who
  have bp_law_who := Fp_law_who.binds (ps := ["jobs", "ticks"]) fun _ _ _ _ _ _ us hl => match us, hl with | [_, _], _ => rfl
  have Fp_law_common := fun_mk (st := s__law_common) lp_law_common cp_law_common kp_law_common
  have bp_law_common := Fp_law_common.binds (ps := ["jobs"]) fun _ _ _ _ _ _ us hl => match us, hl with | [_], _ => rfl
  have Fp_law_missed := fun_mk (st := s__law_missed) lp_law_missed cp_law_missed kp_law_missed
  have bp_law_missed := Fp_law_missed.binds (ps := ["jobs"]) fun _ _ _ _ _ _ us hl => match us, hl with | [_], _ => rfl
  have Fp_law_missed_at := fun_mk (st := s__law_missed_at) lp_law_missed_at cp_law_missed_at kp_law_missed_at
  have bp_law_missed_at := Fp_law_missed_at.binds (ps := ["jobs"]) fun _ _ _ _ _ _ us hl => match us, hl with | [_], _ => rfl
  have Fp_law_ends := fun_mk (st := s__law_ends) lp_law_ends cp_law_ends kp_law_ends
  have bp_law_ends := Fp_law_ends.binds (ps := ["jobs", "place", "many"]) fun _ _ _ _ _ _ us hl => match us, hl with | [_, _, _], _ => rfl
  have Fp_law_refusal := fun_mk (st := s__law_refusal) lp_law_refusal cp_law_refusal kp_law_refusal
  have bp_law_refusal := Fp_law_refusal.binds (ps := ["jobs", "place"]) fun _ _ _ _ _ _ us hl => match us, hl with | [_, _], _ => rfl
  have Fp_law_refusals_fit := fun_mk (st := s__law_refusals_fit) lp_law_refusals_fit cp_law_refusals_fit kp_law_refusals_fit
  have bp_law_refusals_fit := Fp_law_refusals_fit.binds (ps := ["numbers", "jobs"]) fun _ _ _ _ _ _ us hl => match us, hl with | [_, _], _ => rfl
  have Flaw := fun_mk (st := s_law) llaw claw klaw
  have B : Bl mg := { bool := PySem.W.mg_none_of X G zbool, enumerate := PySem.W.mg_none_of X G zenumerate, int := PySem.W.mg_none_of X G zint, isinstance := PySem.W.mg_none_of X G zisinstance, len := PySem.W.mg_none_of X G zlen, list := PySem.W.mg_none_of X G zlist, min := PySem.W.mg_none_of X G zmin, range := PySem.W.mg_none_of X G zrange, str := PySem.W.mg_none_of X G zstr, tuple := PySem.W.mg_none_of X G ztuple }
  have OBadNumber : OexC K CBadNumber := { cls := ⟨_, _, _, _, _, _, _, _, _, _, _, _, _, _, _, xlBadNumber, rfl⟩, sa := saBadNumber, exC := ebBadNumber, tyC := tyBadNumber, kC := kcBadNumber }
  have SBadNumber : Sup P K mg CBadNumber iBadNumber "BadNumber.__init__" s_BadNumber_init (PySem.W.fnX "__init__" "BadNumber.__init__" (defArgs s_BadNumber_init) (defBody s_BadNumber_init) (defScope s_BadNumber_init) [("__class__", ccBadNumber)] .none kViBadNumber dciBadNumber pmiBadNumber aniBadNumber (.ref cdaBadNumber) ctiBadNumber) :=
    { O := OBadNumber, iC := inBadNumber, tI := tiBadNumber, ex := ⟨_, _, _, _, _, _, _, _, _, _, _, _, _, _, _, _, _, _, _, rfl, liBadNumber, ciBadNumber, ldBadNumber, vfBadNumber, hfBadNumber, lcBadNumber⟩, sup := suBadNumber, opq := opq, sVE := veBadNumber, mro := mrBadNumber, sG := PySem.W.mg_none_of X G zsuper, top := top }
  have bxBadNumber : Binds K (PySem.W.fnX "__init__" "BadNumber.__init__" (defArgs s_BadNumber_init) (defBody s_BadNumber_init) (defScope s_BadNumber_init) [("__class__", ccBadNumber)] .none kViBadNumber dciBadNumber pmiBadNumber aniBadNumber (.ref cdaBadNumber) ctiBadNumber) ["self", "word"] [] := fun s us _ hl => by
    rw [List.append_nil] at hl ⊢
    exact match us, hl with | [_, _], _ => .of_eq rfl
  have nfBadNumber : ∀ y ∈ (["word"] : List Str), PySem.W.findIn K (.ref CBadNumber) y = some none := by
    intro y hy
    simp only [List.mem_cons, List.not_mem_nil, or_false] at hy
    subst hy
    exact nwordBadNumber
  let EBadNumber : Ke P K mg "BadNumber" "BadNumber.__init__" s_BadNumber_init ["self", "word"] ["word"] := { C := CBadNumber, f := iBadNumber, fd := _, T := SBadNumber, b := bxBadNumber, nf := nfBadNumber, g := PySem.W.mg_of X G gxBadNumber, X := ⟨gaBadNumber, ggBadNumber, ebBadNumber, hdBadNumber⟩ }
  have OTooMany : OexC K CTooMany := { cls := ⟨_, _, _, _, _, _, _, _, _, _, _, _, _, _, _, xlTooMany, rfl⟩, sa := saTooMany, exC := ebTooMany, tyC := tyTooMany, kC := kcTooMany }
  have STooMany : Sup P K mg CTooMany iTooMany "TooMany.__init__" s_TooMany_init (PySem.W.fnX "__init__" "TooMany.__init__" (defArgs s_TooMany_init) (defBody s_TooMany_init) (defScope s_TooMany_init) [("__class__", ccTooMany)] .none kViTooMany dciTooMany pmiTooMany aniTooMany (.ref cdaTooMany) ctiTooMany) :=
    { O := OTooMany, iC := inTooMany, tI := tiTooMany, ex := ⟨_, _, _, _, _, _, _, _, _, _, _, _, _, _, _, _, _, _, _, rfl, liTooMany, ciTooMany, ldTooMany, vfTooMany, hfTooMany, lcTooMany⟩, sup := suTooMany, opq := opq, sVE := veTooMany, mro := mrTooMany, sG := PySem.W.mg_none_of X G zsuper, top := top }
  have bxTooMany : Binds K (PySem.W.fnX "__init__" "TooMany.__init__" (defArgs s_TooMany_init) (defBody s_TooMany_init) (defScope s_TooMany_init) [("__class__", ccTooMany)] .none kViTooMany dciTooMany pmiTooMany aniTooMany (.ref cdaTooMany) ctiTooMany) ["self", "limit"] [] := fun s us _ hl => by
    rw [List.append_nil] at hl ⊢
    exact match us, hl with | [_, _], _ => .of_eq rfl
  have nfTooMany : ∀ y ∈ (["limit"] : List Str), PySem.W.findIn K (.ref CTooMany) y = some none := by
    intro y hy
    simp only [List.mem_cons, List.not_mem_nil, or_false] at hy
    subst hy
    exact nlimitTooMany
  let ETooMany : Ke P K mg "TooMany" "TooMany.__init__" s_TooMany_init ["self", "limit"] ["limit"] := { C := CTooMany, f := iTooMany, fd := _, T := STooMany, b := bxTooMany, nf := nfTooMany, g := PySem.W.mg_of X G gxTooMany, X := ⟨gaTooMany, ggTooMany, ebTooMany, hdTooMany⟩ }
  have FClock_init := fun_mk (st := s_Clock_init) mlClock_init mcClock_init mkClock_init
  have bClock_init := FClock_init.binds (ps := ["self", "jobs"]) fun _ _ _ _ _ _ us hl => match us, hl with | [_, _], _ => rfl
  have FClock_run_tick := fun_mk (st := s_Clock_run_tick) mlClock_run_tick mcClock_run_tick mkClock_run_tick
  have bClock_run_tick := FClock_run_tick.binds (ps := ["self"]) fun _ _ _ _ _ _ us hl => match us, hl with | [_], _ => rfl
  have nfClock : ∀ y ∈ (["jobs", "tick", "left", "missed"] : List Str), NoAttr K KClock y := by
    intro y hy
    simp only [List.mem_cons, List.not_mem_nil, or_false] at hy
    rcases hy with rfl | rfl | rfl | rfl
    · exact knClockjobs
    · exact knClocktick
    · exact knClockleft
    · exact knClockmissed
  let EClock : Kc K mg "Clock" "Clock.__init__" s_Clock_init ["self", "jobs"] ["jobs", "tick", "left", "missed"] := { C := KClock, f := gClock_init, fd := _, F := FClock_init, b := bClock_init, M := ⟨kmkClock, maClock_init, miClock_init, kkcClock⟩, cl := ⟨kpgClock, khdClock, kpoClock, ksaClock⟩, nf := nfClock, g := PySem.W.mg_of X G kgClock }
  let PR : Pr P K mg := { B := B, BadNumber := EBadNumber, TooMany := ETooMany, x_BadNumber_BadNumber := exm_of ebBadNumber icBadNumber tyBadNumber sBadNumberBadNumber, x_BadNumber_TooMany := exm_of ebTooMany icTooMany tyTooMany sBadNumberTooMany, x_TooMany_BadNumber := exm_of ebBadNumber icBadNumber tyBadNumber sTooManyBadNumber, x_TooMany_TooMany := exm_of ebTooMany icTooMany tyTooMany sTooManyTooMany, g_lcm := PySem.W.mg_of X G imlcm, Clock := EClock, Clock_run_tick := { f := gClock_run_tick, fd := _, F := FClock_run_tick, b := bClock_run_tick, M := ⟨maClock_run_tick, miClock_run_tick, mkClock_run_tick⟩ }, is_whole := { f := fpis_whole, fd := _, F := Fpis_whole, b := bpis_whole, g := PySem.W.mg_of X G apis_whole }, is_listed := { f := fpis_listed, fd := _, F := Fpis_listed, b := bpis_listed, g := PySem.W.mg_of X G apis_listed }, is_time := { f := fpis_time, fd := _, F := Fpis_time, b := bpis_time, g := PySem.W.mg_of X G apis_time }, check_jobs := { f := fpcheck_jobs, fd := _, F := Fpcheck_jobs, b := bpcheck_jobs, g := PySem.W.mg_of X G apcheck_jobs }, check_place := { f := fpcheck_place, fd := _, F := Fpcheck_place, b := bpcheck_place, g := PySem.W.mg_of X G apcheck_place }, settled := { f := fpsettled, fd := _, F := Fpsettled, b := bpsettled, g := PySem.W.mg_of X G apsettled }, who_runs := { f := fpwho_runs, fd := _, F := Fpwho_runs, b := bpwho_runs, g := PySem.W.mg_of X G apwho_runs }, first_miss := { f := fpfirst_miss, fd := _, F := Fpfirst_miss, b := bpfirst_miss, g := PySem.W.mg_of X G apfirst_miss }, job_ends := { f := fpjob_ends, fd := _, F := Fpjob_ends, b := bpjob_ends, g := PySem.W.mg_of X G apjob_ends }, _law_numbers := { f := fp_law_numbers, fd := _, F := Fp_law_numbers, b := bp_law_numbers, g := PySem.W.mg_of X G ap_law_numbers }, _law_draw := { f := fp_law_draw, fd := _, F := Fp_law_draw, b := bp_law_draw, g := PySem.W.mg_of X G ap_law_draw }, _law_int := { f := fp_law_int, fd := _, F := Fp_law_int, b := bp_law_int, g := PySem.W.mg_of X G ap_law_int }, _law_jobs := { f := fp_law_jobs, fd := _, F := Fp_law_jobs, b := bp_law_jobs, g := PySem.W.mg_of X G ap_law_jobs }, _law_come := { f := fp_law_come, fd := _, F := Fp_law_come, b := bp_law_come, g := PySem.W.mg_of X G ap_law_come }, _law_run := { f := fp_law_run, fd := _, F := Fp_law_run, b := bp_law_run, g := PySem.W.mg_of X G ap_law_run }, _law_who := { f := fp_law_who, fd := _, F := Fp_law_who, b := bp_law_who, g := PySem.W.mg_of X G ap_law_who }, _law_common := { f := fp_law_common, fd := _, F := Fp_law_common, b := bp_law_common, g := PySem.W.mg_of X G ap_law_common }, _law_missed := { f := fp_law_missed, fd := _, F := Fp_law_missed, b := bp_law_missed, g := PySem.W.mg_of X G ap_law_missed }, _law_missed_at := { f := fp_law_missed_at, fd := _, F := Fp_law_missed_at, b := bp_law_missed_at, g := PySem.W.mg_of X G ap_law_missed_at }, _law_ends := { f := fp_law_ends, fd := _, F := Fp_law_ends, b := bp_law_ends, g := PySem.W.mg_of X G ap_law_ends }, _law_refusal := { f := fp_law_refusal, fd := _, F := Fp_law_refusal, b := bp_law_refusal, g := PySem.W.mg_of X G ap_law_refusal }, _law_refusals_fit := { f := fp_law_refusals_fit, fd := _, F := Fp_law_refusals_fit, b := bp_law_refusals_fit, g := PySem.W.mg_of X G ap_law_refusals_fit } }
  exact ⟨_, fun s v => .of_eq rfl, fun base _ _ => ok_law PR Flaw⟩
end K7

set_option Elab.async false
set_option linter.all false
open PySem PySem.W PyProof.Rows
set_option maxRecDepth 100000
set_option maxHeartbeats 0 in
theorem PySem.Challenge.cw_guardrungs_k76_cut_tasks_and_first_miss_holds : PySem.Challenge.rw_guardrungs_k76_cut_tasks_and_first_miss.Holds := by
  w_on; o_law; k_head; (case hw => w_witness2)
  k_fill
  refine L2.walk_of (l := PySem.Challenge.rw_guardrungs_k76_cut_tasks_and_first_miss) (n := 63) (k := 7) (x := "script") (CX := fun w => L2.CX PySem.Challenge.rw_guardrungs_k76_cut_tasks_and_first_miss.prog w) (sp := fun w => K7.spLaw _) rfl (by decide) rfl ⟨rfl, by decide, by decide⟩ (fun w h Y => PySem.W.kIn_of Y) ?F (fun _ _ a ns hl _ hS => ⟨a, ns, rfl, hS, hl, fun _ => rfl⟩) (fun _ _ _ _ _ h => by obtain ⟨_, _, _, _, _, _, _, _, _, _, _, _, z⟩ := h; exact z)
  case F =>
    intro w mg fa h KX G hmg
    refine' K7.all_mk KX G hmg ?apis_whole ?lpis_whole ?cpis_whole ?kpis_whole ?apis_listed ?lpis_listed ?cpis_listed ?kpis_listed ?apis_time ?lpis_time ?cpis_time ?kpis_time ?apcheck_jobs ?lpcheck_jobs ?cpcheck_jobs ?kpcheck_jobs ?apcheck_place ?lpcheck_place ?cpcheck_place ?kpcheck_place ?apsettled ?lpsettled ?cpsettled ?kpsettled ?apwho_runs ?lpwho_runs ?cpwho_runs ?kpwho_runs ?apfirst_miss ?lpfirst_miss ?cpfirst_miss ?kpfirst_miss ?apjob_ends ?lpjob_ends ?cpjob_ends ?kpjob_ends ?ap_law_numbers ?lp_law_numbers ?cp_law_numbers ?kp_law_numbers ?ap_law_draw ?lp_law_draw ?cp_law_draw ?kp_law_draw ?ap_law_int ?lp_law_int ?cp_law_int ?kp_law_int ?ap_law_jobs ?lp_law_jobs ?cp_law_jobs ?kp_law_jobs ?ap_law_come ?lp_law_come ?cp_law_come ?kp_law_come ?ap_law_run ?lp_law_run ?cp_law_run ?kp_law_run ?ap_law_who ?lp_law_who ?cp_law_who ?kp_law_who ?ap_law_common ?lp_law_common ?cp_law_common ?kp_law_common ?ap_law_missed ?lp_law_missed ?cp_law_missed ?kp_law_missed ?ap_law_missed_at ?lp_law_missed_at ?cp_law_missed_at ?kp_law_missed_at ?ap_law_ends ?lp_law_ends ?cp_law_ends ?kp_law_ends ?ap_law_refusal ?lp_law_refusal ?cp_law_refusal ?kp_law_refusal ?ap_law_refusals_fit ?lp_law_refusals_fit ?cp_law_refusals_fit ?kp_law_refusals_fit ?alaw ?llaw ?claw ?klaw ?zbool ?zenumerate ?zint ?zisinstance ?zlen ?zlist ?zmin ?zrange ?zstr ?zsuper ?ztuple ?imlcm ?gARungsError ?gxBadNumber ?xlBadNumber ?saBadNumber ?gaBadNumber ?ggBadNumber ?ebBadNumber ?tyBadNumber ?kcBadNumber ?hdBadNumber ?icBadNumber ?inBadNumber ?tiBadNumber ?liBadNumber ?ciBadNumber ?ldBadNumber ?vfBadNumber ?hfBadNumber ?lcBadNumber ?suBadNumber ?veBadNumber ?mrBadNumber ?nwordBadNumber ?gxTooMany ?xlTooMany ?saTooMany ?gaTooMany ?ggTooMany ?ebTooMany ?tyTooMany ?kcTooMany ?hdTooMany ?icTooMany ?inTooMany ?tiTooMany ?liTooMany ?ciTooMany ?ldTooMany ?vfTooMany ?hfTooMany ?lcTooMany ?suTooMany ?veTooMany ?mrTooMany ?nlimitTooMany ?kgClock ?kpgClock ?khdClock ?kpoClock ?ksaClock ?kmkClock ?kkcClock ?knClockjobs ?knClocktick ?knClockleft ?knClockmissed ?maClock_init ?miClock_init ?mlClock_init ?mcClock_init ?mkClock_init ?maClock_run_tick ?miClock_run_tick ?mlClock_run_tick ?mcClock_run_tick ?mkClock_run_tick ?opq ?sBadNumberBadNumber ?sBadNumberTooMany ?sTooManyBadNumber ?sTooManyTooMany ?top
    (case apis_whole => k_is)
    (case lpis_whole => k_is)
    (case cpis_whole => k_is)
    (case kpis_whole => k_is)
    (case apis_listed => k_is)
    (case lpis_listed => k_is)
    (case cpis_listed => k_is)
    (case kpis_listed => k_is)
    (case apis_time => k_is)
    (case lpis_time => k_is)
    (case cpis_time => k_is)
    (case kpis_time => k_is)
    (case apcheck_jobs => k_is)
    (case lpcheck_jobs => k_is)
    (case cpcheck_jobs => k_is)
    (case kpcheck_jobs => k_is)
    (case apcheck_place => k_is)
    (case lpcheck_place => k_is)
    (case cpcheck_place => k_is)
    (case kpcheck_place => k_is)
    (case apsettled => k_is)
    (case lpsettled => k_is)
    (case cpsettled => k_is)
    (case kpsettled => k_is)
    (case apwho_runs => k_is)
    (case lpwho_runs => k_is)
    (case cpwho_runs => k_is)
    (case kpwho_runs => k_is)
    (case apfirst_miss => k_is)
    (case lpfirst_miss => k_is)
    (case cpfirst_miss => k_is)
    (case kpfirst_miss => k_is)
    (case apjob_ends => k_is)
    (case lpjob_ends => k_is)
    (case cpjob_ends => k_is)
    (case kpjob_ends => k_is)
    (case ap_law_numbers => k_is)
    (case lp_law_numbers => k_is)
    (case cp_law_numbers => k_is)
    (case kp_law_numbers => k_is)
    (case ap_law_draw => k_is)
    (case lp_law_draw => k_is)
    (case cp_law_draw => k_is)
    (case kp_law_draw => k_is)
    (case ap_law_int => k_is)
    (case lp_law_int => k_is)
    (case cp_law_int => k_is)
    (case kp_law_int => k_is)
    (case ap_law_jobs => k_is)
    (case lp_law_jobs => k_is)
    (case cp_law_jobs => k_is)
    (case kp_law_jobs => k_is)
    (case ap_law_come => k_is)
    (case lp_law_come => k_is)
    (case cp_law_come => k_is)
    (case kp_law_come => k_is)
    (case ap_law_run => k_is)
    (case lp_law_run => k_is)
    (case cp_law_run => k_is)
    (case kp_law_run => k_is)
    (case ap_law_who => k_is)
    (case lp_law_who => k_is)
    (case cp_law_who => k_is)
    (case kp_law_who => k_is)
    (case ap_law_common => k_is)
    (case lp_law_common => k_is)
    (case cp_law_common => k_is)
    (case kp_law_common => k_is)
    (case ap_law_missed => k_is)
    (case lp_law_missed => k_is)
    (case cp_law_missed => k_is)
    (case kp_law_missed => k_is)
    (case ap_law_missed_at => k_is)
    (case lp_law_missed_at => k_is)
    (case cp_law_missed_at => k_is)
    (case kp_law_missed_at => k_is)
    (case ap_law_ends => k_is)
    (case lp_law_ends => k_is)
    (case cp_law_ends => k_is)
    (case kp_law_ends => k_is)
    (case ap_law_refusal => k_is)
    (case lp_law_refusal => k_is)
    (case cp_law_refusal => k_is)
    (case kp_law_refusal => k_is)
    (case ap_law_refusals_fit => k_is)
    (case lp_law_refusals_fit => k_is)
    (case cp_law_refusals_fit => k_is)
    (case kp_law_refusals_fit => k_is)
    (case alaw => k_is)
    (case llaw => k_is)
    (case claw => k_is)
    (case klaw => k_is)
    (case zbool => k_is)
    (case zenumerate => k_is)
    (case zint => k_is)
    (case zisinstance => k_is)
    (case zlen => k_is)
    (case zlist => k_is)
    (case zmin => k_is)
    (case zrange => k_is)
    (case zstr => k_is)
    (case zsuper => k_is)
    (case ztuple => k_is)
    (case imlcm => k_is)
    (case gARungsError => k_is)
    (case gxBadNumber => k_is)
    (case xlBadNumber => k_is)
    (case saBadNumber => k_is)
    (case gaBadNumber => k_is)
    (case ggBadNumber => k_is)
    (case ebBadNumber => k_is)
    (case tyBadNumber => k_is)
    (case kcBadNumber => k_is)
    (case hdBadNumber => k_is)
    (case icBadNumber => k_is)
    (case inBadNumber => k_is)
    (case tiBadNumber => k_is)
    (case liBadNumber => k_is)
    (case ciBadNumber => k_is)
    (case ldBadNumber => k_is)
    (case vfBadNumber => first | rfl | k_is)
    (case hfBadNumber => first | rfl | decide | k_is)
    (case lcBadNumber => k_is)
    (case suBadNumber => first | rfl | decide +kernel)
    (case veBadNumber => k_is)
    (case mrBadNumber => k_is)
    (case nwordBadNumber => k_is)
    (case gxTooMany => k_is)
    (case xlTooMany => k_is)
    (case saTooMany => k_is)
    (case gaTooMany => k_is)
    (case ggTooMany => k_is)
    (case ebTooMany => k_is)
    (case tyTooMany => k_is)
    (case kcTooMany => k_is)
    (case hdTooMany => k_is)
    (case icTooMany => k_is)
    (case inTooMany => k_is)
    (case tiTooMany => k_is)
    (case liTooMany => k_is)
    (case ciTooMany => k_is)
    (case ldTooMany => k_is)
    (case vfTooMany => first | rfl | k_is)
    (case hfTooMany => first | rfl | decide | k_is)
    (case lcTooMany => k_is)
    (case suTooMany => first | rfl | decide +kernel)
    (case veTooMany => k_is)
    (case mrTooMany => k_is)
    (case nlimitTooMany => k_is)
    (case kgClock => k_is)
    (case kpgClock => k_is)
    (case khdClock => k_is)
    (case kpoClock => k_is)
    (case ksaClock => k_is)
    (case kmkClock => k_is)
    (case kkcClock => k_is)
    (case knClockjobs => k_is)
    (case knClocktick => k_is)
    (case knClockleft => k_is)
    (case knClockmissed => k_is)
    (case maClock_init => k_is)
    (case miClock_init => k_is)
    (case mlClock_init => k_is)
    (case mcClock_init => k_is)
    (case mkClock_init => k_is)
    (case maClock_run_tick => k_is)
    (case miClock_run_tick => k_is)
    (case mlClock_run_tick => k_is)
    (case mcClock_run_tick => k_is)
    (case mkClock_run_tick => k_is)
    (case opq => k_is)
    (case sBadNumberBadNumber => k_is)
    (case sBadNumberTooMany => k_is)
    (case sTooManyBadNumber => k_is)
    (case sTooManyTooMany => k_is)
    (case top => first | rfl | decide)

