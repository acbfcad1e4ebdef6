import PyProof.Rows.All
import Wide.All
import OpenK.AllK
import Wide.FinOn
import KE.KExcSuper
import HandS.Base
import HandS.Call
import HandS.List
import HandS.Ends
import HandS.Exc
import HandS.ExcOwn
import HandS.ExcInit
import HandS.Words
import HandS.Nested
import HandS.TryMany
import KE.GoesMore
import KE.GoesEnum
import HandS.Iter
import HandS.Sort
import HandS.SortInts
import HandS.TupMul
import HandS.TupAny
import PyProof.ListMulRoad
import HandS.CallSlots
import KE.KDictZip
import KE.KDictItemsList
import HandS.ListItems
import HandS.MapObj
import HandS.Gcd
import KE.KMathGC
import HandS.ForMost
import HandS.ForExc
import HandS.IsInst
import HandS.Conv
import HandS.Zip
import HandS.DictComp
import HandS.SortRule
import HandS.ExcField
import HandS.FStr
import HandS.Deep
import HandS.TupLe
import HandS.TryOnly
import KE.DataMinMax
import PySem.Challenge.RW_guardrungs_k77_whole_worst_over_all_offs
set_option Elab.async false
set_option linter.all false
set_option maxRecDepth 100000
set_option maxHeartbeats 4000000
namespace GX
open PySem PySem.Spec PyProof.Rows L2 NdefX
/-- what the written part says of an own exception class whose __init__ goes over super -/
structure Sup (P : Program) (K : PySem.W.Frag) (mg : Str → Option Value) (C fI : Addr) (qual : Str) (st : Stmt) (fd : FuncData) : Prop where
  O : OexC K C
  iC : PySem.W.findIn K (.ref C) "__init__" = some (some (.ref fI))
  tI : PySem.W.typeIn K (.ref fI) = some (.type "function")
  ex : ∃ (oc : Value) (od : Option Addr) (kV doc pm ct : Value) (an : Option Addr) (osl : Array (Option Value)) (cc cda : Addr) (ccl cl : Value) (cdd cld : Option Addr) (vs : Array Value) (ccs csl : Array (Option Value)) (file : Str) (tf : Tok),
    fd = PySem.W.fnX "__init__" qual (defArgs st) (defBody st) (defScope st) [("__class__", cc)] .none kV doc pm an (.ref cda) ct ∧
    K.lookup fI = some ⟨oc, od, .func fd, osl⟩ ∧ PySem.W.codeIn K (.ref cda) qual = true ∧ K.lookup cda = some ⟨ccl, cdd, .fields vs, ccs⟩ ∧ vs[2]? = some (.str file tf) ∧ ((P.main.file : Str) == file) = true ∧
    K.lookup cc = some ⟨cl, cld, .cell (some (.ref C)), csl⟩
  sup : PySem.W.ks_superIn K C C "__init__" = some (some (.builtin "ValueError.__init__"))
  opq : PySem.W.nsIn K cStatics "thirdparty.any" = some none
  sVE : PySem.W.subIn K (.ref C) (.type "ValueError") = some true
  mro : PySem.W.mroIn K C (.ref C) = some true
  sG : mg "super" = none
  top : (P.main.scope.names.lookup ("super" : Str)).isSome = false
section
variable {X : Cx} {pins : List (Addr × Obj)} {σ : L2.St} {H : Hp} {s : Shared} {C a u : Addr}
/-- the built-in __init__ bound to the exception, called -/
theorem sup_call {A : Around} {E : Value → Shared → Prop} {us : List Value} {Q : Value → Shared → Prop} (T : OexC X.K C) (I : Inv X pins σ H s) (e : H a = some (exo a C none))
    (hu : s.heap.get? u = some (PySem.W.kxs_mw "ValueError.__init__" a)) (hl : us.length ≤ sizeLine) (h : ∀ s', Inv X pins σ H s' → Q .none s') : wpAny (model X.prog X.w) A (call (.ref u) us) Q E s := by
  obtain ⟨nm, q, N, bs, bm, sn, sub, ab, col, dd, k0, k1, k2, k3, k5, hC, hbm⟩ := T.cls
  have hC' := I.kIn _ _ hC
  obtain ⟨t1, ho⟩ := exo_at I.hok e
  obtain ⟨hp, g, d, t, os⟩ := s
  refine wpAny_call (codeAny_of_tree ?_)
  show wpAny _ A.in1 (callAny (.ref u) ⟨us, []⟩) _ _ _
  simp only [callAny]
  refine wpAny_bind (wpAny_load hu ?_)
  simp only [PySem.W.kxs_mw, show (Value.type "method-wrapper" == Value.type "method" || Value.type "method-wrapper" == Value.type "builtin_function_or_method" || Value.type "method-wrapper" == Value.type "method-wrapper") = true by decide, if_true]
  refine PySem.W.KFB.if_so (by decide) ?_
  refine wpAny_bind (PySem.W.check_bound_init F.excBase_ValueError.toExcCallFacts hC' ho rfl ?_)
  refine wpAny_bind (wpAny_pure (wpAny_pure ?_))
  refine ⟨plainId_quiet F.excBase_ValueError.init.plain _, codeAny_builtin F.excBase_ValueError.initEntry ?_⟩
  refine PySem.W.exc_init_tree (cls := .ref C) (t0 := t1) (dv := none) (c2 := .none) (c3 := .none) (b4 := .bool false) ho hl fun h' k hx _ => ?_
  have J := I.write (t' := t) (x := a) (e := a) (o := exo a C none) (by rw [e]; exact True.intro) (.inl rfl) k ⟨_, hx⟩ (exo_ok hx)
  have eu : upd H a (exo a C none) = H := by
    funext b
    by_cases hb : b = a
    · rw [hb, upd_same, e]
    · rw [upd_ne hb]
  rw [eu] at J
  exact h _ J
/-- super().__init__(e, ..) as a statement of an exception's own __init__ -/
theorem sup_stmt {body : List Stmt} {e : Expr} {es : List Expr} {ta : TA} {p0 p1 p2 p3 p4 : Pos} {pl : Sem Bool} {nx : Hp → Prop} {fI cda cc : Addr} {fd : FuncData} {ar : Arg} {oc ccl cl : Value} {od cdd cld : Option Addr} {osl ccs csl : Array (Option Value)} {vs : Array Value} {file : Str} {tf : Tok}
    (O : OexC X.K C) (hfu : X.env.func = some fI) (lkf : X.K.lookup fI = some ⟨oc, od, .func fd, osl⟩) (hp : (fd.params.posonlyargs ++ fd.params.args).head? = some ar) (hco : X.env.code = .ref cda) (lkc : X.K.lookup cda = some ⟨ccl, cdd, .fields vs, ccs⟩)
    (hvs : vs[2]? = some (.str file tf)) (hfile : ((X.prog.main.file : Str) == file) = true) (hcel : X.env.cells.lookup ("__class__" : Str) = some cc) (lkcc : X.K.lookup cc = some ⟨cl, cld, .cell (some (.ref C)), csl⟩)
    (hks : X.env.kindOf "super" = some .globalImplicit) (hkc : X.env.kindOf "__class__" = some .free) (hk0 : X.env.kindOf ar.arg = some .local) (hN0 : X.N[0]? = some ar.arg)
    (sup : PySem.W.ks_superIn X.K C C "__init__" = some (some (.builtin "ValueError.__init__"))) (opq : PySem.W.nsIn X.K cStatics "thirdparty.any" = some none) (sVE : PySem.W.subIn X.K (.ref C) (.type "ValueError") = some true)
    (mro : PySem.W.mroIn X.K C (.ref C) = some true) (sG : X.mg "super" = none) (top : (X.prog.main.scope.names.lookup ("super" : Str)).isSome = false)
    (hpa : PA X (e :: es) ta) (I : Inv X pins σ H s) (hs0 : σ[0]? = some (some (.ref a))) (ea : H a = some (exo a C none)) (h : ta σ H fun vs H1 => H1 a = some (exo a C none) ∧ vs.length ≤ 1000 ∧ nx H1)
    (hi : interactive X.env = false) (hsw : swapsWith (.Call (.Attribute (.Call (.Name "super" p0) [] [] p1) "__init__" p2) (e :: es) [] p3) none p4.line X.env = pure false)
    (heq : eval (.Call (.Attribute (.Call (.Name "super" p0) [] [] p1) "__init__" p2) (e :: es) [] p3) X.env = (do
      let ov ← attributeBase (.Call (.Name "super" p0) [] [] p1) "__init__" X.env (eval (.Call (.Name "super" p0) [] [] p1) X.env)
      standAt p2.atName
      let (f, first) ← holding [ov] (getMethod ov "__init__" pl)
      callWith p3 f first (backTo p3 (starEach (e :: es) X.env)) []))
    (he : starEach (e :: es) X.env = (false, eval e X.env) :: starEach es X.env) (hpl : (backTo p3 (starEach es X.env)).any (·.1) = false) :
    _root_.PySem.wpAt (model X.prog X.w) X.A (.func body X.env) (exec (.Expr (.Call (.Attribute (.Call (.Name "super" p0) [] [] p1) "__init__" p2) (e :: es) [] p3) p4) X.env) (fun f s' => f = .next ∧ ∃ H1, Inv X pins σ H1 s' ∧ nx H1) X.xe s := by
  refine ks_wpAt_Expr_any ?_ hi hsw
  refine ks_wpAt_MethodCall ?_ heq
  obtain ⟨nm, q, N, bs, bm, sn, sub, ab, col, dd, k0, k1, k2, k3, k5, hC, hbm⟩ := O.cls
  have hC' := I.kIn _ _ hC
  obtain ⟨cd, hcd⟩ : ∃ cd, PySem.W.clsIn X.K C = some cd := by
    unfold PySem.W.ks_superIn at sup
    cases hc : PySem.W.clsIn X.K C with
    | none => rw [hc] at sup; cases sup
    | some cd => exact ⟨cd, rfl⟩
  have hsup : PySem.W.alongIn X.K "__init__" ((cd.mro.dropWhile (· != .ref C)).drop 1) = some (some (.builtin "ValueError.__init__")) := by
    unfold PySem.W.ks_superIn at sup
    rw [hcd] at sup
    exact sup
  obtain ⟨t1, hoe⟩ := exo_at I.hok ea
  have hnc : ∀ c, (({ cls := .ref C, dict := none, data := .fields #[.ref t1, .none, .none, .none, .bool false, .none] } : Obj)).data ≠ .cls c := fun c z => by cases z
  refine ks_wpAt_super_base hks hkc rfl hfu (I.kIn _ _ lkf) rfl hp hco (I.kIn _ _ lkc) rfl hvs hfile top ?_
  obtain ⟨mb, hb1, hb2⟩ := I.mod.blt
  refine PySem.W.ks_loadName_global I.ok.kind hks (Calls.loadGlobal_builtin (by rw [I.ok.glob]; exact I.mod.glob.keeps I.bk) sG (by rw [I.ok.blt]; exact hb1.keeps I.bk) ((hb2 "super" (by decide)).trans (by decide +kernel)) ⟨rfl, ?_⟩)
  refine wpAny_loadName_free I.ok.kind hkc hcel ⟨_, I.kIn _ _ lkcc, rfl⟩ ?_
  obtain ⟨m, hn, hlk⟩ := id I.loc
  obtain ⟨u0, r0, l0⟩ := hlk 0 ar.arg (.ref a) hN0 hs0 (.inl hk0)
  obtain rfl : u0 = Value.ref a := r0
  have hma : m ar.arg = some (.ref a) := by
    rcases l0 with ⟨_, z⟩ | ⟨z | z, _⟩
    · exact z
    · rw [hk0] at z; cases z
    · rw [hk0] at z; cases z
  refine wpAny_loadName_local I.ok.kind hk0 hn hma ?_
  refine ks_wpAny_isType_cls hC' rfl ⟨rfl, ?_⟩
  obtain ⟨hh, g, d, t, os⟩ := s
  refine ks_wpAny_call_super hC' rfl hoe rfl hnc (PySem.W.looks_mroIn I.kIn mro) (fun h1 e1 kp1 => ?_)
  have I1 : Inv X pins σ H ⟨h1, g, d, t, os⟩ := I.kept (t' := t) kp1
  have hoe1 := kp1 _ _ hoe
  have ne : a ≠ C := fun z => by
    rw [z] at hoe
    have hoe := hoe.symm.trans hC'
    cases hoe
  have hI : PySem.W.Looks (model X.prog X.w) h1 (isInstance (.ref a) (.type "ValueError")) true :=
    (show PySem.W.InstAt h1 a ({ cls := .ref C, dict := none, data := .fields #[.ref t1, .none, .none, .none, .bool false, .none] } : Obj) C none from ⟨hoe1, rfl, rfl, trivial⟩).type.andThen (PySem.W.looks_subIn I1.kIn sVE)
  refine PySem.W.kxs_getMethod PySem.W.kxs_ValueError e1 (PySem.W.looks_opaque I1.kIn opq) (l₀ := cd.mro) (fun A Q E s k q => wpAny_bind ((PySem.W.looks_clsIn I1.kIn hcd) A _ E s k (wpAny_pure q))) rfl I1.kIn hsup hI ne rfl ?_
  have kp2 : ∀ b o, h1.get? b = some o → (h1.push (PySem.W.kxs_mw "ValueError.__init__" a)).get? b = some o := fun b o z => Heap.get?_push_of_some _ z
  have hu2 : (h1.push (PySem.W.kxs_mw "ValueError.__init__" a)).get? h1.objs.size = some (PySem.W.kxs_mw "ValueError.__init__" a) := Heap.get?_push_at rfl rfl
  have I2 : Inv X pins σ H ⟨h1.push (PySem.W.kxs_mw "ValueError.__init__" a), g, d, t + 1, os⟩ := I1.kept (t' := t + 1) kp2
  have nH : H h1.objs.size = none := I1.hok.fresh (Nat.le_refl _)
  have I3 : Inv X ((h1.objs.size, PySem.W.kxs_mw "ValueError.__init__" a) :: pins) σ H ⟨h1.push (PySem.W.kxs_mw "ValueError.__init__" a), g, d, t + 1, os⟩ := I2.pins_of fun p hp => by
    rcases List.mem_cons.mp hp with rfl | hp
    · exact ⟨hu2, nH, Nat.ne_of_gt I1.lt, I1.nofs (Nat.le_refl _), fun v z => by cases z⟩
    · exact I2.pin p (List.mem_append_right _ hp)
  show wpAny _ _ (callWith p3 (.ref h1.objs.size) [] (backTo p3 (starEach (e :: es) X.env)) []) _ _ _
  rw [he]
  refine PySem.W.kxs_callWith (i := "ValueError.__init__") (x := a) (by show (false || (backTo p3 (starEach es X.env)).any (·.1)) = false; rw [hpl]; rfl) ?_
  refine Calls.evalArgs_plain ?_
  show wpAny _ _ (spliced (backTo p3 ((false, eval e X.env) :: starEach es X.env))) _ _ _
  rw [← he]
  refine thn (hpa.run p3 _ _ σ H _ I3 h) fun us s4 ⟨vs4, H4, I4, r4, e4, l4, q4⟩ => ?_
  have hu4 := (I4.pin _ (List.mem_append_right _ List.mem_cons_self)).1
  have I5 : Inv X pins σ H4 s4 := I4.pins_of fun p hp => I4.pin p (List.mem_append_right _ (List.mem_cons_of_mem _ hp))
  refine ⟨hu4, ?_⟩
  refine sup_call O I5 e4 hu4 ?_ fun s5 J => ⟨rfl, H4, J, q4⟩
  show us.length ≤ sizeLine
  rw [← Paired.length r4, sizeLine_eq]
  omega
end
/-- an exception's own __init__ by its body -/
theorem fn_ofI {CX : CXT} {P : Program} {w : World} {K : PySem.W.Frag} {mg : Str → Option Value} {base : Heap} {k : Nat} {C fI : Addr} {qual : Str} {st : Stmt} {fd : FuncData} {N ps : List Str} {ar : Arg} {sp : Sp} {ex : Expr} {es : List Expr} {rest : List Stmt} {p0 p1 p2 p3 p4 : Pos}
    (T : Sup P K mg C fI qual st fd) (S : NScope N ps ["__class__"] (defScope st)) (har : ((defArgs st).posonlyargs ++ (defArgs st).args).head? = some ar) (hps : ps[0]? = some ar.arg) (hsu : (defScope st).names.lookup ("super" : Str) = some .globalImplicit)
    (len : ∀ vs H Q E, sp vs H Q E → vs.length = ps.length)
    (hst : defBody st = .Expr (.Call (.Attribute (.Call (.Name "super" p0) [] [] p1) "__init__" p2) (ex :: es) [] p3) p4 :: rest)
    (hside : ∀ (cc cda L : Addr), interactive (envF ⟨"__init__", qual, defArgs st, defBody st, defScope st, [("__class__", cc)], cda⟩ fI L) = false ∧
      swapsWith (.Call (.Attribute (.Call (.Name "super" p0) [] [] p1) "__init__" p2) (ex :: es) [] p3) none p4.line (envF ⟨"__init__", qual, defArgs st, defBody st, defScope st, [("__class__", cc)], cda⟩ fI L) = pure false ∧
      (∃ pl : Sem Bool, eval (.Call (.Attribute (.Call (.Name "super" p0) [] [] p1) "__init__" p2) (ex :: es) [] p3) (envF ⟨"__init__", qual, defArgs st, defBody st, defScope st, [("__class__", cc)], cda⟩ fI L) = (do
        let ov ← attributeBase (.Call (.Name "super" p0) [] [] p1) "__init__" (envF ⟨"__init__", qual, defArgs st, defBody st, defScope st, [("__class__", cc)], cda⟩ fI L) (eval (.Call (.Name "super" p0) [] [] p1) (envF ⟨"__init__", qual, defArgs st, defBody st, defScope st, [("__class__", cc)], cda⟩ fI L))
        standAt p2.atName
        let (f, first) ← holding [ov] (getMethod ov "__init__" pl)
        callWith p3 f first (backTo p3 (starEach (ex :: es) (envF ⟨"__init__", qual, defArgs st, defBody st, defScope st, [("__class__", cc)], cda⟩ fI L))) [])) ∧
      starEach (ex :: es) (envF ⟨"__init__", qual, defArgs st, defBody st, defScope st, [("__class__", cc)], cda⟩ fI L) = (false, eval ex (envF ⟨"__init__", qual, defArgs st, defBody st, defScope st, [("__class__", cc)], cda⟩ fI L)) :: starEach es (envF ⟨"__init__", qual, defArgs st, defBody st, defScope st, [("__class__", cc)], cda⟩ fI L) ∧
      (backTo p3 (starEach es (envF ⟨"__init__", qual, defArgs st, defBody st, defScope st, [("__class__", cc)], cda⟩ fI L))).any (·.1) = false)
    (hbody : ∀ (cc cda : Addr) (A : Around) (outer : List Env) (s : Shared) (H : Hp) (vs : List V) (Q : VK) (E : XK), Room k (A.deeper (envF ⟨"__init__", qual, defArgs st, defBody st, defScope st, [("__class__", cc)], cda⟩ fI s.heap.objs.size)) → sp vs H Q E →
      ∃ (a : Addr) (vs' : List V) (ta : TA) (t : TS), vs = .ref a :: vs' ∧ H a = some (exo a C none) ∧ PA (ncx CX P w K mg base N ⟨"__init__", qual, defArgs st, defBody st, defScope st, [("__class__", cc)], cda⟩ fI A outer s H E) (ex :: es) ta ∧
        PSs (ncx CX P w K mg base N ⟨"__init__", qual, defArgs st, defBody st, defScope st, [("__class__", cc)], cda⟩ fI A outer s H E) rest t ∧
        ta (startF N vs [none]) H fun us H1 => H1 a = some (exo a C none) ∧ us.length ≤ 1000 ∧ t { nx := fun _ H' => Q .non H', rt := Q } (startF N vs [none]) H1) :
    FnOk P w K mg base CX (k + 1) fI fd ps sp := by
  obtain ⟨oc, od, kV, doc, pm, ct, an, osl, cc, cda, ccl, cl, cdd, cld, vs2, ccs, csl, file, tf, efd, lkf, hcd, lkc, hvs, hfile, lkcc⟩ := T.ex
  subst efd
  refine ⟨len, fun A outer s H args us vs Q E hr e0 hb r hsp => ?_⟩
  have hl := len _ _ _ _ hsp
  have KX : K.In s.heap := e0.mod.kin.keeps fun b o e => (e0.bs b o e).1
  have lim : s.heap.NoLimit := e0.mod.nolimit.keeps fun b o e => (e0.bs b o e).1
  have hloc : ∀ y ∈ ps.zip us, (defScope st).names.lookup y.1 = some .local := fun ⟨n, _⟩ hy => S.par n (List.of_mem_zip hy).1
  obtain ⟨h1, h2, ⟨pl, h3⟩, h4, h5⟩ := hside cc cda s.heap.objs.size
  refine ks_codeAny_call_defAt (fd := PySem.W.fnX "__init__" qual (defArgs st) (defBody st) (defScope st) [("__class__", cc)] .none kV doc pm an (.ref cda) ct) (body := defBody st) (binds := ps.zip us) hr.depth (KX _ _ lkf) rfl lim (PySem.W.codeRec_of KX hcd) rfl hb S.nocell hloc (fun h₁ hns kp => ?_) S.co S.gen S.kind
  have C0 : CellsAt [(("__class__" : Str), cc)] ["__class__"] [none] s.heap H := by
    have bc := e0.mod.kin _ _ lkcc
    have hc := e0.bs _ _ bc
    have look1 : ∀ {y : Str} {c : Addr}, List.lookup y [(("__class__" : Str), cc)] = some c → y = "__class__" ∧ c = cc := fun {y c} z => by
      by_cases hy : y = ("__class__" : Str)
      · subst hy
        simp [List.lookup] at z
        exact ⟨rfl, z.symm⟩
      · have e : (y == ("__class__" : Str)) = false := by simpa using hy
        simp [List.lookup, e] at z
    refine ⟨rfl, fun y c z => ?_, fun x y c z1 z2 => (look1 z1).1.trans (look1 z2).1.symm, fun i y z => ?_⟩
    · obtain ⟨_, rfl⟩ := look1 z
      exact ⟨hc.2, _, _, hc.1, rfl⟩
    · cases i with
      | zero =>
        have e : ("__class__" : Str) = y := by simpa using z
        subst e
        exact ⟨cc, by simp [List.lookup], fun v q => by simp at q⟩
      | succ i => simp at z
  have I : Inv (ncx CX P w K mg base N ⟨"__init__", qual, defArgs st, defBody st, defScope st, [("__class__", cc)], cda⟩ fI A outer s H E) [] (startF N vs [none]) H { s with heap := h₁, toks := s.toks + (ps.zip us).length } := inv_startN S hr.hd e0 hl r C0 hns kp
  obtain ⟨a, vs', ta, t, evs, ea, hpa, hrest, hq⟩ := hbody cc cda A outer s H vs Q E (hr.deeper _) hsp
  have hN0 : N[0]? = some ar.arg := by
    have hpre := S.pre
    have q : (ps ++ [("__class__" : Str)])[0]? = some ar.arg := by
      rw [List.getElem?_append_left (by
        cases ps with
        | nil => simp at hps
        | cons _ _ => simp)]
      exact hps
    rw [← hpre, List.getElem?_take_of_lt (by simp)] at q
    exact q
  have hs0 : (startF N vs [none])[0]? = some (some (.ref a)) := by
    rw [evs]
    rfl
  have hloc0 : (defScope st).names.lookup ar.arg = some .local := S.par _ (List.mem_of_getElem? hps)
  have fin : ∀ {σ' : L2.St} {H' : Hp} {v : V} {u : Value} {s' : Shared}, Inv (ncx CX P w K mg base N ⟨"__init__", qual, defArgs st, defBody st, defScope st, [("__class__", cc)], cda⟩ fI A outer s H E) [] σ' H' s' → L2.RelV v u → Q v H' → CE outer P w H s Q u s' :=
    fun {σ' H' v u s'} J rv q => ⟨v, H', J.os, J.bare, J.base, J.hok, rv, q⟩
  have sup := sup_stmt (X := ncx CX P w K mg base N ⟨"__init__", qual, defArgs st, defBody st, defScope st, [("__class__", cc)], cda⟩ fI A outer s H E) (body := defBody st) (p0 := p0) (p1 := p1) (p2 := p2) (p3 := p3) (p4 := p4) (pl := pl) (e := ex) (es := es) (C := C) (a := a)
    (nx := fun H1 => t { nx := fun _ H' => Q .non H', rt := Q } (startF N vs [none]) H1) (fI := fI) (cda := cda) (cc := cc) (ar := ar) (vs := vs2) (file := file) (tf := tf)
    T.O rfl lkf har rfl lkc hvs hfile (by rfl) lkcc hsu (S.frk _ List.mem_cons_self) hloc0 hN0 T.sup T.opq T.sVE T.mro T.sG T.top hpa I hs0 ea hq h1 h2 h3 h4 h5
  show _root_.PySem.wpAt (model P w) (A.deeper (envF ⟨"__init__", qual, defArgs st, defBody st, defScope st, [("__class__", cc)], cda⟩ fI s.heap.objs.size)) (.func (defBody st) (envF ⟨"__init__", qual, defArgs st, defBody st, defScope st, [("__class__", cc)], cda⟩ fI s.heap.objs.size))
    (execs (defBody st) (envF ⟨"__init__", qual, defArgs st, defBody st, defScope st, [("__class__", cc)], cda⟩ fI s.heap.objs.size)) _ _ _
  have sp2 : ∀ (stmts : List Stmt), stmts = .Expr (.Call (.Attribute (.Call (.Name "super" p0) [] [] p1) "__init__" p2) (ex :: es) [] p3) p4 :: rest →
      _root_.PySem.wpAt (model P w) (A.deeper (envF ⟨"__init__", qual, defArgs st, defBody st, defScope st, [("__class__", cc)], cda⟩ fI s.heap.objs.size)) (.func (defBody st) (envF ⟨"__init__", qual, defArgs st, defBody st, defScope st, [("__class__", cc)], cda⟩ fI s.heap.objs.size))
        (execs stmts (envF ⟨"__init__", qual, defArgs st, defBody st, defScope st, [("__class__", cc)], cda⟩ fI s.heap.objs.size)) (fun f s' => CR CX outer P w H s Q E (.ok (.ret (match f with | .ret v => v | _ => .none))) s')
        (ncx CX P w K mg base N ⟨"__init__", qual, defArgs st, defBody st, defScope st, [("__class__", cc)], cda⟩ fI A outer s H E).xe { s with heap := h₁, toks := s.toks + (ps.zip us).length } := fun stmts es' => by
    subst es'
    refine ks_wpAt_execs_cons (ks_wpAt_mono sup (fun f s' ⟨ef, H1, J, q⟩ => ?_) fun _ _ z => z)
    subst ef
    refine PySem.wpAt_of_wpAny (wpAny_mono (hrest.run [] s' _ H1 _ J q) (fun fl s2 hs => ?_) fun e s' hs => hs)
    cases fl with
    | ret u =>
      obtain ⟨v, σ', H', J, rv, q⟩ := hs
      exact fin J rv q
    | next =>
      obtain ⟨σ', H', J, q⟩ := hs
      exact fin (v := V.non) (u := Value.none) J rfl q
    | brk =>
      obtain ⟨_, _, _, q⟩ := hs
      exact False.elim q
    | cont =>
      obtain ⟨_, _, _, q⟩ := hs
      exact False.elim q
  exact sp2 (defBody st) hst
end GX

set_option Elab.async false
set_option linter.all false
set_option maxRecDepth 100000
set_option maxHeartbeats 4000000
namespace GX
open PySem PySem.Spec PyProof.Rows L2
/-- behind a suite whose name goes -/
def endsA (D : Ends) (i : Nat) : Ends := { nx := fun σ' H' => D.nx (σ'.set i none) H', rt := D.rt, bk := fun σ' H' => D.bk (σ'.set i none) H', ct := fun σ' H' => D.ct (σ'.set i none) H' }
/-- what the clauses, named ones too, wish of an exception of the body, one after the other -/
def wManyA (K : PySem.W.Frag) (Wout : WX) (D : Ends) : List (Value × Option Nat × (Addr → Value → Option Addr → TS)) → WX
  | [] => Wout
  | (c, .none, ts) :: r => fun cls d σ H => ∃ b, PySem.W.exmOne K cls c = some b ∧ (b = true → ∀ a, H a = none → ts a cls d D σ H) ∧ (b = false → wManyA K Wout D r cls d σ H)
  | (c, .some i, ts) :: r => fun cls d σ H => ∃ b, PySem.W.exmOne K cls c = some b ∧ (b = true → ∀ a, H a = none → ts a cls d (endsA D i) (σ.set i (some (.ref a))) H) ∧ (b = false → wManyA K Wout D r cls d σ H)
inductive HdsA (X : Cx) : List ExceptHandler → List (Value × Option Nat × (Addr → Value → Option Addr → TS)) → Prop
  | nil : HdsA X [] []
  | plain {x : Str} {c : Value} {ts : Addr → Value → Option Addr → TS} {b₀ : Stmt} {suite : List Stmt} {np pos' : Pos} {hds : List ExceptHandler} {l : List (Value × Option Nat × (Addr → Value → Option Addr → TS))} (hc : Names X x c)
      (hsu : ∀ (a : Addr) (oe : Obj) (cls : Value) (d : Option Addr) (pn : List (Addr × Obj)), Zc cls d oe → (∃ vs, oe.data = .fields vs) → PSs (X.suite a ((a, oe) :: pn)) (b₀ :: suite) (ts a cls d)) (r : HdsA X hds l) :
      HdsA X (.ExceptHandler (some (.Name x np)) none (b₀ :: suite) pos' :: hds) ((c, .none, ts) :: l)
  | named {x n : Str} {i : Nat} {c : Value} {ts : Addr → Value → Option Addr → TS} {b₀ : Stmt} {suite : List Stmt} {np pos' : Pos} {hds : List ExceptHandler} {l : List (Value × Option Nat × (Addr → Value → Option Addr → TS))} (hc : Names X x c)
      (hi : X.N[i]? = some n) (hln : X.env.kindOf n = some .local)
      (hsu : ∀ (a : Addr) (oe : Obj) (cls : Value) (d : Option Addr) (pn : List (Addr × Obj)), Zc cls d oe → (∃ vs, oe.data = .fields vs) → PSs (X.suite a ((a, oe) :: pn)) (b₀ :: suite) (ts a cls d)) (r : HdsA X hds l) :
      HdsA X (.ExceptHandler (some (.Name x np)) (some n) (b₀ :: suite) pos' :: hds) ((c, .some i, ts) :: l)
section
variable {X : Cx} {body : List Stmt} {h₀ : ExceptHandler} {hds : List ExceptHandler} {l : List (Value × Option Nat × (Addr → Value → Option Addr → TS))} {pos : Pos} {tb : WX → TS} {Wout : WX}
theorem ps_try_manyA (hs : X.stack = X.env :: X.outer) (hf : X.env.frame = some X.env.locals) (hN : X.N.Nodup) (tk : Takes X Wout)
    (hb : ∀ (W : WX) (pn : List (Addr × Obj)) (xe : Value → Shared → Prop), Takes (X.tr pn xe) W → PassesOwn (model X.prog X.w) X.A X.env xe → PSs (X.tr pn xe) body (tb W))
    (hh : HdsA X (h₀ :: hds) l) : PS X (.Try body (h₀ :: hds) [] [] pos) (fun D σ H => tb (wManyA X.K Wout D l) D σ H) := by
  refine ⟨fun pins s σ H D I h => ?_⟩
  have ok := I.ok
  have hfr : X.A.frames = some (X.env :: X.outer) := by rw [ok.frames, hs]
  refine wpAny_Try_except ?_
  refine wpAny_mono ((hb (wManyA X.K Wout D l) (X.pn ++ pins) (fun e s₁ => wpAny (model X.prog X.w) X.A (noteFrame e X.env) (fun _ s₂ => wpAny (model X.prog X.w) X.A (setFlight e none) (fun _ s₃ =>
    wpAny (model X.prog X.w) X.A (handleBy e X.env (h₀ :: hds)) (SP X pins D) X.xe s₃) X.xe s₂) X.xe s₁) (fun u s' xx => ?_) PassesOwn.looking).run [] s σ H D (I.toTry _) h) (fun f s1 hsp => ?_) (fun e s1 he => he)
  · obtain ⟨a, B, sI, pins', σ', H', cls, d, rfl, J', nb, up, sky, na, os, ag, w⟩ := xx
    have J : Inv X pins σ' H' sI := J'.ofTry ok
    have sky' : Sky B (X.env :: X.outer) a (Zc cls d) X.env.locals s'.heap := by rw [← hs]; exact sky
    show wpAny (model X.prog X.w) X.A (noteFrame (.ref a) X.env) _ _ _
    refine Sky.land Zc.steady hfr hf sky' fun h3 fl3 up3 => ?_
    have J3 : Inv X pins σ' H' { s' with heap := h3 } := J.landed nb fl3.1 (up.trans up3) os ag
    obtain ⟨oe3, vs3, he3, hz3, hd3⟩ := fl3.there
    have notFr : ∀ {h : Heap} {o : Obj} {vs : Array Value}, h.FunFrames B (X.env :: X.outer) → h.get? a = some o → o.data = .fields vs → a ∉ frs (X.env :: X.outer) := fun {h o vs} ff e dd hm => by
      obtain ⟨_, o', e', hnf⟩ := ff.mem hm
      rw [e] at e'; cases e'
      exact hnf _ dd
    have nfr := notFr fl3.2.2.1 he3 hd3
    have nL : a ≠ X.env.locals := fun z => nfr (List.mem_filterMap.mpr ⟨X.env, List.mem_cons_self, by rw [hf, z]⟩)
    have nF : a ∉ X.fs := fun hm => by
      obtain ⟨e, he, q⟩ := List.mem_filterMap.mp hm
      exact nfr (List.mem_filterMap.mpr ⟨e, List.mem_cons_of_mem _ he, q⟩)
    have S3 := J3.suite he3 hd3 na nL nF
    have LT : PySem.W.Looks (model X.prog X.w) h3 (typeOf (.ref a)) cls := fun A Q E s k q => wpAny_typeOf_ref (k _ _ he3) (by rw [hz3.1]; exact q)
    have test : ∀ {x : Str} {c : Value} {np : Pos} {Q : Value → Shared → Prop} {E : Value → Shared → Prop}, Names X x c → Q c { s' with heap := h3 } → wpAny (model X.prog X.w) (X.A.mark (some (.ref a))) (eval (.Name x np) X.env) Q E { s' with heap := h3 } := fun {x c np Q E} hc q => by
      obtain ⟨hg, hdbg, hm | ⟨hm, hv, hnn⟩⟩ := hc
      · exact ld_glob (X := X.suite a ((a, oe3) :: (X.pn ++ pins))) S3 hg hm q hdbg
      · exact ld_blt (X := X.suite a ((a, oe3) :: (X.pn ++ pins))) S3 hg hm hv q hnn hdbg
    have go : ∀ {hds' : List ExceptHandler} {l' : List (Value × Option Nat × (Addr → Value → Option Addr → TS))}, HdsA X hds' l' → wManyA X.K Wout D l' cls d σ' H' →
        wpAny (model X.prog X.w) X.A (handleBy (.ref a) X.env hds') (SP X pins D) X.xe { s' with heap := h3 } := by
      intro hds' l' hk
      induction hk with
      | nil =>
        intro w
        refine wpAny_handleBy_nil ?_
        obtain ⟨k1, k2, k3, oe, vs, T, oT, ts', he, hz, hd, h1, hr⟩ := id fl3
        unfold PySem.passOn
        refine wpAny_bind (wpAny_field he hd h1 ?_)
        rw [if_neg (show ¬ ((Value.ref T == Value.none) = true) from by simp)]
        have fin : wpAny (model X.prog X.w) X.A (setFlight (.ref a) X.env.frame) (fun _ s4 => wpAny (model X.prog X.w) X.A (throw (.ref a) : Sem Flow) (SP X pins D) X.xe s4) X.xe { s' with heap := h3 } := by
          rw [hf]
          refine HandSPX.setFlight_upZ fl3 fun h4 hh4 up4 => wpAny_throw (tk _ _ ?_)
          exact ⟨a, B, sI, pins, σ', H', cls, d, rfl, J, nb, (up.trans up3).trans up4, .inr (.inr (by rw [hs]; exact hh4)), na, os, ag, w⟩
        first
          | exact wpAny_bind (wpAny_pure (wpAny_bind fin))
          | exact wpAny_bind fin
      | @plain x c ts b₀ suite np pos' hds2 l2 hc hsu r ih =>
        intro w
        obtain ⟨b, hb1, hyes, hno⟩ := w
        refine wpAny_handleBy_cons (codeAny_handlers_test ?_) (by intro q; cases q)
        have LM := PySem.W.exm_one (M := model X.prog X.w) (J3.kIn) LT hb1
        refine test hc (LM.here ?_)
        cases b with
        | true =>
          refine codeAny_handlers_suite ?_
          refine HandSPX.lands_againZ fl3 fun h4 fl4 up4 => ?_
          have J4 : Inv X pins σ' H' { s' with heap := h4 } := J.landed nb fl4.1 ((up.trans up3).trans up4) os ag
          obtain ⟨oe4, vs4, he4, hz4, hd4⟩ := fl4.there
          have S4 := J4.suite he4 hd4 na nL nF
          refine wpAny_mono ((hsu a oe4 cls d (X.pn ++ pins) hz4 ⟨_, hd4⟩).run [] _ _ H' _ S4 (hyes rfl a na)) (fun f s6 hsp => ?_) (fun _ _ z => False.elim z)
          cases f with
          | next =>
            obtain ⟨σ6, H6, S6, q6⟩ := hsp
            exact ⟨_, _, S6.unsuite ok, q6⟩
          | brk =>
            obtain ⟨σ6, H6, S6, q6⟩ := hsp
            exact ⟨_, _, S6.unsuite ok, q6⟩
          | cont =>
            obtain ⟨σ6, H6, S6, q6⟩ := hsp
            exact ⟨_, _, S6.unsuite ok, q6⟩
          | ret u =>
            obtain ⟨v6, σ6, H6, S6, r6, q6⟩ := hsp
            exact ⟨_, _, _, S6.unsuite ok, r6, q6⟩
        | false =>
          show wpAny _ X.A (handleBy (.ref a) X.env hds2) _ _ _
          exact ih (hno rfl)
      | @named x n i c ts b₀ suite np pos' hds2 l2 hc hi hln hsu r ih =>
        intro w
        obtain ⟨b, hb1, hyes, hno⟩ := w
        have hloc : Loc X.env.scope n := .inl hln
        refine wpAny_handleBy_cons (codeAny_handlers_test ?_) (by intro q; cases q)
        have LM := PySem.W.exm_one (M := model X.prog X.w) (J3.kIn) LT hb1
        refine test hc (LM.here ?_)
        cases b with
        | true =>
          refine codeAny_handlers_suite_as ?_
          refine HandSPX.lands_againZ fl3 fun h4 fl4 up4 => ?_
          have J4 : Inv X pins σ' H' { s' with heap := h4 } := J.landed nb fl4.1 ((up.trans up3).trans up4) os ag
          obtain ⟨oe4, vs4, he4, hz4, hd4⟩ := fl4.there
          have S4 := J4.suite he4 hd4 na nL nF
          refine store_ok (X := X.suite a ((a, oe4) :: (X.pn ++ pins))) (v := .ref a) S4 hN hi hloc rfl (fun s5 S5 => ?_) (.inr hln)
          refine wpAny_mono ((hsu a oe4 cls d (X.pn ++ pins) hz4 ⟨_, hd4⟩).run [] s5 _ H' _ S5 (hyes rfl a na)) (fun f s6 hsp => ?_) (fun _ _ z => False.elim z)
          have end_ : ∀ {σ6 : L2.St} {H6 : Hp} {Q : Shared → Prop}, Inv (X.suite a ((a, oe4) :: (X.pn ++ pins))) [] σ6 H6 s6 → (∀ s7, Inv X pins (σ6.set i none) H6 s7 → Q s7) →
              wpAny (model X.prog X.w) X.A (do bindName X.env n .none; unbindBehindTheSuite X.env n pos') (fun _ s7 => Q s7) X.xe s6 := fun {σ6 H6 Q} S6 hq => gone_ok (S6.unsuite ok) hN hi hln hq
          cases f with
          | next =>
            obtain ⟨σ6, H6, S6, q6⟩ := hsp
            exact end_ S6 fun s7 J7 => ⟨_, _, J7, q6⟩
          | brk =>
            obtain ⟨σ6, H6, S6, q6⟩ := hsp
            exact end_ S6 fun s7 J7 => ⟨_, _, J7, q6⟩
          | cont =>
            obtain ⟨σ6, H6, S6, q6⟩ := hsp
            exact end_ S6 fun s7 J7 => ⟨_, _, J7, q6⟩
          | ret u =>
            obtain ⟨v6, σ6, H6, S6, r6, q6⟩ := hsp
            exact end_ S6 fun s7 J7 => ⟨_, _, _, J7, r6, q6⟩
        | false =>
          show wpAny _ X.A (handleBy (.ref a) X.env hds2) _ _ _
          exact ih (hno rfl)
    exact go hh w
  · cases f with
    | next =>
      obtain ⟨σ', H', J', q⟩ := hsp
      exact wpAny_execs_nil ⟨σ', H', J'.ofTry ok, q⟩
    | brk =>
      obtain ⟨σ', H', J', q⟩ := hsp
      exact ⟨σ', H', J'.ofTry ok, q⟩
    | cont =>
      obtain ⟨σ', H', J', q⟩ := hsp
      exact ⟨σ', H', J'.ofTry ok, q⟩
    | ret u =>
      obtain ⟨v, σ', H', J', r, q⟩ := hsp
      exact ⟨v, σ', H', J'.ofTry ok, r, q⟩
end
end GX

set_option Elab.async false
set_option linter.all false
set_option maxRecDepth 100000
set_option maxHeartbeats 4000000
namespace PySem
set_option maxHeartbeats 1000000 in
theorem gx_meets_enumerate_newB1 {v : Value} {o : Obj} {H : Heap → Prop} (B : Begins v o H) :
    Meets (Builtin.«enumerate.__new__» ⟨[.type "enumerate", v], []⟩) (fun _ R s => H s.heap ∧
      R (.ok (.ret (.ref (s.heap.push o).objs.size))) { s with heap := (s.heap.push o).push { cls := .type "enumerate", data := .fields #[.none, .bool false, .ref s.heap.objs.size, rawInt 0, .none, .none] } }) :=
  .of_wp fun prog w A R s h => by
    obtain ⟨hp, g, d, tk, os⟩ := s; obtain ⟨h1, h⟩ := h
    have hsub := sub_enumerate
    have q1 : ∀ {A' : Around} {E : Value → Shared → Prop} {Q : Value → Shared → Prop}, Q (.ref hp.objs.size) ⟨hp.push o, g, d, tk, os⟩ → wpAny (model prog w) A' (pyIter v) Q E ⟨hp, g, d, tk, os⟩ :=
      fun q => B.iter prog w _ _ ⟨hp, g, d, tk, os⟩ _ h1 q
    wp_walk using q1
    refine wpAny_stack_any fun st => wpAny_pure ?_
    split
    · rename_i c _ _ _ _ _
      cases (c == Value.type "enumerate")
      · wp_walk using q1
        exact ⟨_, rfl, h⟩
      · wp_walk using q1
        exact ⟨_, rfl, h⟩
    · wp_walk using q1
      exact ⟨_, rfl, h⟩
theorem gx_enum1 {prog : Program} {w : World} {A : Around} {E : Value → Shared → Prop} {s : Shared} {v : Value} {o : Obj} {H : Heap → Prop} {Q : Value → Shared → Prop} (B : Begins v o H) (h1 : H s.heap)
    (h : ∀ h', IsEnum h' (s.heap.objs.size + 1) s.heap.objs.size 0 .none → h'.get? s.heap.objs.size = some o → h'.objs.size = s.heap.objs.size + 2 →
      (∀ b o, s.heap.get? b = some o → h'.get? b = some o) → Q (.ref (s.heap.objs.size + 1)) { s with heap := h' }) :
    wpAny (model prog w) A (call (.type "enumerate") [v]) Q E s := by
  refine callType_new F.called_enumerate (by decide) (F.typeCall_enumerate_1 _) (F.newCall_enumerate_1 _) (fun obj => F.args_object_init_2 obj _) F.entry_enumerate_new
    (gx_meets_enumerate_newB1 B) ⟨h1, ?_⟩
  have hz : (s.heap.push o).objs.size = s.heap.objs.size + 1 := Heap.size_push ..
  show _ ∧ _
  rw [hz]
  have he : IsEnum ((s.heap.push o).push { cls := .type "enumerate", data := .fields #[.none, .bool false, .ref s.heap.objs.size, rawInt 0, .none, .none] }) (s.heap.objs.size + 1) s.heap.objs.size 0 .none := by
    have := Heap.get?_push_size (s.heap.push o) (o := { cls := .type "enumerate", data := .fields #[.none, .bool false, .ref s.heap.objs.size, rawInt 0, .none, .none] }) rfl
    rw [hz] at this; exact this
  refine ⟨⟨_, he, rfl⟩, h _ he (Heap.get?_push_of_some _ (Heap.get?_push_size _ B.free)) (by rw [Heap.size_push, hz]) fun b o x => Heap.get?_push_of_some _ (Heap.get?_push_of_some _ x)⟩
end PySem
namespace GX
open PySem PySem.Spec PyProof.Rows L2
/-! ### enumerate(tuple) -/
def IteT (K : PySem.W.Frag) (a : Addr) : It :=
  ⟨fun i H => ∃ (xs : List V) (x : V), SqT K H a xs ∧ xs[i]? = some x, fun i H v H' => ∃ T x, v = .ref T ∧ H T = none ∧ H' = upd H T (.tup [.int (i : Nat), x]) ∧ ∀ xs, SqT K H a xs → xs[i]? = some x, fun i H => ∃ xs : List V, SqT K H a xs ∧ xs.length = i⟩
theorem turn_enumT {P : Program} {w : World} {K : PySem.W.Frag} {elts : List Expr} {kk : Nat} {tpos : Pos} (a e it : Addr) :
    Turn P w K (.Tuple elts kk tpos) (IteT K a) [e, it] e (fun i h => (∃ old, IsEnum h e it ((i : Nat) : Int) old) ∧ h.IsTupleIter it a i ∧ e ≠ it ∧ a ≠ e ∧ a ≠ it) where
  mem := by simp
  obj := fun i h st b hb => by
    obtain ⟨⟨old, he⟩, ⟨o, ho, hc, hd⟩, _⟩ := st
    have e' : b = e ∨ b = it := by simpa using hb
    rcases e' with z | z
    · rw [z]; exact ⟨_, he, fun v q => nomatch q⟩
    · rw [z]; exact ⟨o, ho, fun v q => by rw [hd] at q; cases q⟩
  keep := fun i h h' st k => let ⟨⟨old, he⟩, hi, hne⟩ := st; ⟨⟨old, k e (by simp) _ he⟩, hi.at fun o q => k it (by simp) o q, hne⟩
  item := by
    intro X hP hw hK hc i pins s σ H E I hf st hg
    subst hP hw hK
    obtain ⟨⟨old, he⟩, hit, hne, hae, hai⟩ := st
    obtain ⟨xs, x, hq, hx⟩ := hg
    obtain ⟨its, rv, p, hz⟩ := I.tuple hq
    obtain ⟨u, hu, ru⟩ := rv.get hx
    have hel : e < s.heap.objs.size := Heap.lt_size he
    have hil : it < s.heap.objs.size := by obtain ⟨_, q, _⟩ := hit; exact Heap.lt_size q
    have D := Draws.tuple (prog := X.prog) (w := X.w) (A := X.A.in1) (show X.A.in1.handled = none from I.ok.hd hc) it a hai its.toArray
    have hlt : i < its.toArray.size := by
      rcases Nat.lt_or_ge i its.toArray.size with z | z
      · exact z
      · have z' : its.length ≤ i := by simpa using z
        rw [List.getElem?_eq_none z'] at hu
        cases hu
    refine wpAny_pyNext_enum_itemD D he ⟨hit, (show s.heap.IsTuple a its.toArray from p)⟩ hlt hne (by simp [hne, Ne.symm hae]) fun x1 h' tk hx1 ho hst hT hsz hk => ?_
    have ex1 : x1 = u := by
      have q : its[i]? = some x1 := by simpa using hx1
      rw [hu] at q
      exact (Option.some.inj q).symm
    subst ex1
    refine ⟨_, rfl, wpAny_letOwnedTupleGo_enum (s := { s with heap := h', toks := tk + 1 }) ho fun h'' he' sb => ?_⟩
    have hT2 : h''.get? s.heap.objs.size = some { cls := .type "tuple", data := .seq #[.int i tk, x1] } := (sb.2 _ (Nat.ne_of_gt hel)).trans hT
    have new : ObjOk X.prog X.w (upd H s.heap.objs.size (.tup [.int (i : Nat), x])) h'' s.heap.objs.size (.tup [.int (i : Nat), x]) :=
      ⟨by show 2 ≤ sizeLine; decide, [.int i tk, x1], .cons ⟨_, rfl⟩ (.cons ru .nil), ⟨_, hT2, rfl, _, rfl⟩⟩
    have I1 : Inv X pins σ (upd H s.heap.objs.size (.tup [.int (i : Nat), x])) { s with heap := h'', toks := tk + 1 } :=
      I.turnedNew (ch := [e, it]) (fun b ob hb q => (sb.2 b (fun z => hb (by simp [z]))).trans (hk b ob (fun z => hb (by simp [z])) (fun z => hb (by simp [z])) q)) hf (Nat.le_refl _) new
    refine ⟨.ref s.heap.objs.size, _, I1, rfl, ⟨_, x, rfl, I.hok.fresh (Nat.le_refl _), rfl, fun ys hy => by rw [I.tuple_inj hy hq]; exact hx⟩, ⟨⟨x1, ?_⟩, hst.1.at fun o q => (sb.2 it (Ne.symm hne)).trans q, hne, hae, hai⟩, fun b hb => ?_⟩
    · have e1 : ((i + 1 : Nat) : Int) = (i : Int) + 1 := by omega
      rw [e1]; exact he'
    · have hb' : b < s.heap.objs.size := by
        have e' : b = e ∨ b = it := by simpa using hb
        rcases e' with z | z
        · rw [z]; exact hel
        · rw [z]; exact hil
      rw [upd_ne (Nat.ne_of_lt hb')]
      exact (hf b hb).1
  done := by
    intro X hP hw hK hc i pins s σ H E I hf st hg
    subst hP hw hK
    obtain ⟨⟨old, he⟩, hit, hne, hae, hai⟩ := st
    obtain ⟨xs, hq, hx⟩ := hg
    obtain ⟨its, rv, p, hz⟩ := I.tuple hq
    obtain ⟨f0, f1, f2, f3, f4, f5⟩ := hf it (by simp)
    have hl := rv.length
    have D := Draws.tuple (prog := X.prog) (w := X.w) (A := X.A.in1) (show X.A.in1.handled = none from I.ok.hd hc) it a hai its.toArray
    have e0 : its.toArray.size = i := by simp; omega
    exact wpAny_pyNext_enum_endD D he ⟨by rw [e0]; exact hit, (show s.heap.IsTuple a its.toArray from p)⟩ fun h' eb => ⟨rfl, I.turned (t' := s.toks) (fun b o hb q => eb b o hb q) f0 f1 f3 f4 f5⟩
  self := fun A i s Q E st h => let ⟨⟨_, he⟩, _⟩ := st; wpAny_pyIter_enum he h
/-- enumerate(list or tuple) -/
def iEnumA (K : PySem.W.Frag) (ta : TA) : TI := fun σ H R => ta σ H fun vs H1 => ∃ a xs, vs = [.ref a] ∧ ((SqL K H1 a xs ∧ R (Ite K a) H1) ∨ (SqT K H1 a xs ∧ R (IteT K a) H1))
theorem pi_enumA {X : Cx} {e : Expr} {ta : TA} {p pos tpos : Pos} {elts : List Expr} {kk : Nat} (hg : Gl X "enumerate") (hm : X.mg "enumerate" = none) (ha : PA X [e] ta) (hs : starEach [e] X.env = [(false, eval e X.env)] := by rfl) :
    PI X (.Tuple elts kk tpos) (.Call (.Name "enumerate" p) [e] [] pos) (iEnumA X.K ta) := by
  refine ⟨fun pins s σ H R I h => ?_⟩
  refine Call_ (ld_blt I hg hm boot_enumerate (PyProof.Rows.callWith_type1 (thn (ha.run pos pins s σ H _ I h) fun us s1 ⟨vs, H1, I1, r1, q1⟩ => ?_) hs rfl))
  obtain ⟨a, xs, ex, q⟩ := q1
  subst ex
  cases r1 with
  | cons r rr =>
    cases rr
    cases r
    have fr : ∀ b, b = s1.heap.objs.size + 1 ∨ b = s1.heap.objs.size → FpOk X pins H1 b := fun b e' => by
      have hle : s1.heap.objs.size ≤ b := by
        rcases e' with z | z
        · rw [z]; exact Nat.le_add_right _ _
        · rw [z]; exact Nat.le_refl _
      exact I1.fpOk hle (I1.hok.fresh hle)
    rcases q with ⟨hq, q⟩ | ⟨hq, q⟩
    · obtain ⟨its, rv, p', hz⟩ := I1.list hq
      refine call_enumerate_list p'.isList fun h' he hit hsz hk => wpAny_pyIter_enum he ?_
      have I2 : Inv X pins σ H1 { s1 with heap := h' } := I1.kept (t' := s1.toks) hk
      exact ⟨s1.heap.objs.size + 1, [s1.heap.objs.size + 1, s1.heap.objs.size], _, _, H1, rfl, I2, turn_enum a (s1.heap.objs.size + 1) s1.heap.objs.size, ⟨⟨.none, he⟩, hit, Nat.succ_ne_self _⟩, fun b hb => fr b (by simpa using hb), q⟩
    · obtain ⟨its, rv, p', hz⟩ := I1.tuple hq
      have hal := p'.lt
      refine gx_enum1 (begins_tuple a its.toArray) (show s1.heap.IsTuple a its.toArray from p') fun h' he hit hsz hk => wpAny_pyIter_enum he ?_
      have I2 : Inv X pins σ H1 { s1 with heap := h' } := I1.kept (t' := s1.toks) hk
      exact ⟨s1.heap.objs.size + 1, [s1.heap.objs.size + 1, s1.heap.objs.size], _, _, H1, rfl, I2, turn_enumT a (s1.heap.objs.size + 1) s1.heap.objs.size, ⟨⟨.none, he⟩, ⟨_, hit, rfl, rfl⟩, Nat.succ_ne_self _, Nat.ne_of_lt (Nat.lt_succ_of_lt hal), Nat.ne_of_lt hal⟩, fun b hb => fr b (by simpa using hb), q⟩
/-! ### range(n) as a value; a walk of it -/
theorem cr_range1 {X : Cx} : CallR X (.type "range") (fun vs H Q => ∃ j, vs = [V.int j] ∧ ∀ p, H p = none → Q (.ref p) (upd H p (.rng 0 j))) := by
  intro pins s σ H vs us Q I r h
  obtain ⟨j, rfl, q⟩ := h
  obtain ⟨u1, rfl, ri⟩ := vals1 r
  obtain ⟨t, rfl⟩ := ri
  refine call_range_1 ⟨.ref s.heap.objs.size, upd H s.heap.objs.size (.rng 0 j), I.laid (t' := s.toks + 2) (fun b o e => Heap.get?_push_of_some _ e) (Nat.le_refl _) ?_, rfl, q _ (I.hok.fresh (Nat.le_refl _))⟩
  exact ⟨s.toks, t, s.toks + 1, Heap.get?_push_size _ rfl⟩
/-- a range that stands in H, walked -/
def iRngO (tl : TE) : TI := fun σ H R => tl σ H fun x H1 => ∃ a lo hi, x = .ref a ∧ H1 a = some (.rng lo hi) ∧ (-(2 ^ 62) ≤ lo ∧ lo < 2 ^ 62 ∧ -(2 ^ 62) ≤ hi ∧ hi < 2 ^ 62) ∧ R (Itr lo (hi - lo).toNat) H1
theorem pi_rngO {X : Cx} {tg l : Expr} {tl : TE} (hl : PE X l tl) : PI X tg l (iRngO tl) := by
  refine ⟨fun pins s σ H R I h => ?_⟩
  refine thn (hl.run pins s σ H _ I h) fun v s1 ⟨x, H1, I1, r1, q1⟩ => ?_
  obtain ⟨a, lo, hi, e, ha, ⟨b1, b2, b3, b4⟩, q⟩ := q1
  subst e
  cases r1
  obtain ⟨t, u, v, ho⟩ := (show ∃ t u v, s1.heap.get? a = some { cls := .type "range", data := .fields #[.int lo t, .int hi u, .int 1 v] } from I1.hok a _ ha)
  refine wpAny_pyIter_range ho (small_one b1 b2 b3 b4) ?_
  refine ⟨s1.heap.objs.size, [s1.heap.objs.size], _, _, H1, rfl, I1.kept (t' := s1.toks) fun b o e => Heap.get?_push_of_some _ e, turn_range _ lo (hi - lo).toNat, ?_, fun b hb => ?_, q⟩
  · have e1 : lo + ((0 : Nat) : Int) * 1 = lo := by simp
    have e2 : (((hi - lo).toNat : Nat) : Int) - ((0 : Nat) : Int) = Builtin.Range.rangeSize lo hi 1 := by rw [rangeSize_one]; split <;> omega
    show IsRangeIter _ _ (lo + ((0 : Nat) : Int) * 1) ((((hi - lo).toNat : Nat) : Int) - ((0 : Nat) : Int)) 1
    rw [e1, e2]
    exact Heap.get?_push_size _ rfl
  · have e : b = s1.heap.objs.size := by simpa using hb
    subst e
    exact I1.fpOk (Nat.le_refl _) (I1.hok.fresh (Nat.le_refl _))
end GX
namespace PySem
open SrtO
section
open PyProof.Rows
variable {prog : Program} {w : World} {A : Around} {E : Value → Shared → Prop} {s : Shared}
theorem gx_collect_tuple {l : Addr} {vs : List Value} {Q : List Value → Shared → Prop} (hl : s.heap.IsTuple l vs.toArray)
    (h : Q vs { s with heap := (s.heap.push (seqObj "list" #[] 0)).update s.heap.objs.size (Obj.mapSeq (· ++ vs.toArray)) }) (hsz : vs.length ≤ sizeLine) :
    wpAny (model prog w) A (collect (.ref l)) Q E s := by
  obtain ⟨o, ho, hc, n, hd⟩ := id hl
  unfold collect
  refine wpAny_bind (wpAny_runValue (codeAny_builtin entry_proto_collect' ?_))
  show wpAny _ _ (do again (.builtin "list.__iadd__" ⟨[← newList [], .ref l], []⟩)) _ _ s
  refine wpAny_bind (wpAny_newList (wpAny_pure ⟨Code.quiet_builtin _ (by decide +kernel), codeAny_builtin entry_list_iadd' ?_⟩))
  show wpAny _ _ (Builtin.List.listExtendWith (.ref s.heap.objs.size) (.ref l) (.ref s.heap.objs.size)) _ _ { s with heap := s.heap.push (seqObj "list" #[] 0) }
  unfold Builtin.List.listExtendWith
  have ho' : (s.heap.push (seqObj "list" #[] 0)).get? l = some o := Heap.get?_push_of_some _ ho
  refine wpAny_bind (wpAny_typeOf (T := "tuple") ⟨o, ho', hc⟩ ?_)
  have ht : (Value.type "tuple" == Value.type "tuple") = true := by rfl
  rw [if_pos (by rw [ht]; simp)]
  refine wpAny_bind (listItems_at ho' hd ?_)
  refine wpAny_bind (listItems_at (xs := #[]) (n := 0) (Heap.get?_push_size _ rfl) rfl ?_)
  rw [if_neg (by simp)]
  refine wpAny_bind (listUpdate_at (xs := #[]) (n := 0) (Heap.get?_push_size _ rfl) rfl ?_ (Nat.zero_le _) (by show (#[] ++ vs.toArray).size ≤ sizeLine + 1; simp only [Array.size_append, List.size_toArray, List.length_nil]; omega))
  refine wpAny_pure ?_
  show wpAny (model prog w) A (do
      let o ← load s.heap.objs.size
      match o.data with
      | .seq xs _ => pure xs.toList
      | _ => unsupported "internal:collect") Q E { s with heap := (s.heap.push (seqObj "list" #[] 0)).update s.heap.objs.size (Obj.mapSeq (· ++ vs.toArray)) }
  refine wpAny_bind (wpAny_load (get?_update_seq (Heap.get?_push_size _ rfl) _) ?_)
  show wpAny _ _ (pure ((#[] : Array Value) ++ vs.toArray).toList) Q E _
  rw [show ((#[] : Array Value) ++ vs.toArray).toList = vs by simp]
  exact wpAny_pure h
theorem gx_sorted_ordT {l : Addr} {vs : List Value} {ltv : Value → Value → Bool} {Q : Value → Shared → Prop} (O : Swo ltv) (hl : s.heap.IsTuple l vs.toArray) (hz : vs.length ≤ sizeLine)
    (hS : 2 ≤ vs.length → ∀ (h₁ : Heap) (a : Addr), h₁.get? a = some (seqObj "list" vs.toArray 0) → (∀ b o, s.heap.get? b = some o → b ≠ a ∧ h₁.get? b = some o) → SortableO prog w A.in1.in1 { s with heap := h₁ } a vs ltv)
    (h : ∀ out : List Value, Srtd ltv out → Stb ltv out vs → Q (.ref (s.heap.objs.size + 1)) { s with heap := sortedAll s.heap vs out.toArray }) :
    wpAny (model prog w) A (call (.builtin "sorted") [.ref l]) Q E s := by
  refine Calls.call_function_entry kind_sorted plain_sorted entry_sorted (args_sorted1 _) ?_
  unfold Builtin.«sorted»
  refine wpAny_bind (m := checkCount "sorted" 1 1 _) (wpAny_pure ?_)
  refine wpAny_bind (gx_collect_tuple hl ?_ hz)
  refine wpAny_bind (wpAny_newList ?_ hz)
  have hsz : ((s.heap.push (seqObj "list" #[] 0)).update s.heap.objs.size (Obj.mapSeq (· ++ vs.toArray))).objs.size = s.heap.objs.size + 1 := by
    rw [Heap.size_update, size_push']
  have hoL : (((s.heap.push (seqObj "list" #[] 0)).update s.heap.objs.size (Obj.mapSeq (· ++ vs.toArray))).push (seqObj "list" vs.toArray 0)).get? (s.heap.objs.size + 1) = some (seqObj "list" vs.toArray 0) := by
    rw [← hsz]; exact Heap.get?_push_size _ rfl
  have keep : ∀ b o, s.heap.get? b = some o → b ≠ s.heap.objs.size + 1 ∧ (((s.heap.push (seqObj "list" #[] 0)).update s.heap.objs.size (Obj.mapSeq (· ++ vs.toArray))).push (seqObj "list" vs.toArray 0)).get? b = some o := fun b o q => by
    have hlt : b < s.heap.objs.size := Heap.lt_size q
    refine ⟨Nat.ne_of_lt (Nat.lt_succ_of_lt hlt), Heap.get?_push_of_some _ ?_⟩
    rw [Heap.get?_update_ne _ _ _ _ (Nat.ne_of_lt hlt)]
    exact Heap.get?_push_of_some _ q
  show wpAny _ _ _ _ _ { s with heap := ((s.heap.push (seqObj "list" #[] 0)).update s.heap.objs.size (Obj.mapSeq (· ++ vs.toArray))).push (seqObj "list" vs.toArray 0) }
  rw [hsz]
  refine wpAny_bind (wpAny_holding (wpAny_call_entry slot_list_sort ⟨_, hoL, rfl⟩ entry_list_sort (list_sort_ord O hoL hz (fun h2 => hS h2 _ _ hoL keep) fun out hs hb => ⟨_, rfl, ?_⟩) (args_list_sort _)))
  exact wpAny_pure ⟨_, rfl, h out hs hb⟩
end
end PySem
namespace GX
open PySem PySem.Spec PyProof.Rows L2
/-- sorted(list or tuple of ints), any number of them -/
def rSortedIA (K : PySem.W.Frag) : List V → Hp → VK → Prop := fun vs H Q => ∃ (a : Addr) (ns : List Int), vs = [V.ref a] ∧ (SqL K H a (ns.map V.int) ∨ SqT K H a (ns.map V.int)) ∧
  ∀ (ns' : List Int) (p : Addr), ns'.Perm ns → ns'.Pairwise (· ≤ ·) → H p = none → Q (.ref p) (upd H p (.lst (ns'.map V.int)))
theorem cr_sortedIA {X : Cx} : CallR X (.builtin "sorted") (rSortedIA X.K) := by
  intro pins s σ H vs us Q I r h
  obtain ⟨a, ns, rfl, hs, q⟩ := h
  rcases hs with hs | hs
  · exact cr_sortedI pins s σ H _ us Q I r ⟨a, ns, rfl, hs, q⟩
  · obtain ⟨its, rv, hl, hz⟩ := I.tuple hs
    rw [Vals.ref1 r]
    have hi := rv.ints
    refine gx_sorted_ordT SrtO.swo_int (show s.heap.IsTuple a its.toArray from hl) (by rw [← rv.length]; exact hz) (fun h2 h₁ a' _ _ => SrtO.ints_sortable hi h2) fun out h1 h2 => ?_
    obtain ⟨k1, k2, k3⟩ := SrtO.ints_out hi h1 h2
    obtain ⟨ep, he'⟩ := PyProof.Rows.sortedAll_at s.heap its out.toArray
    have hlen : ((out.map SrtO.iv).map V.int).length ≤ sizeLine := by
      rw [List.length_map, k2.length_eq]
      rw [List.length_map] at hz
      exact hz
    exact ⟨.ref _, upd H (s.heap.objs.size + 1) (.lst ((out.map SrtO.iv).map V.int)), I.laid (t' := s.toks) (fun _ _ => PyProof.Rows.sortedAll_old) (Nat.le_succ _) ⟨hlen, out, ep, vals_of_ints k1, he'⟩, rfl, q _ _ k2 k3 (I.hok.fresh (Nat.le_succ _))⟩
end GX

set_option Elab.async false
set_option linter.all false
set_option maxRecDepth 100000
set_option maxHeartbeats 4000000
namespace PySem
theorem gx_tuple_mul1 (l : Addr) (items : Array Value) (n : Nat) (dd : Option Addr) (sl : Array (Option Value)) (u : Tok) :
    Meets (Builtin.«tuple.__mul__» { pos := [.ref l, .int 1 u] }) fun _ R s => s.heap.get? l = some { cls := .type "tuple", dict := dd, data := .seq items n, slots := sl } ∧ R (.ok (.ret (.ref l))) s :=
  .of_wp fun prog w A R s h => by
    obtain ⟨hp, g, d, tk, os⟩ := s; obtain ⟨h1, h⟩ := h
    wp_walk
    exact ⟨_, rfl, h⟩
theorem gx_tuple_mul0 (l : Addr) (items : Array Value) (n : Nat) (dd : Option Addr) (sl : Array (Option Value)) (u : Tok) :
    Meets (Builtin.«tuple.__mul__» { pos := [.ref l, .int 0 u] }) fun _ R s => s.heap.get? l = some { cls := .type "tuple", dict := dd, data := .seq items n, slots := sl } ∧ items.isEmpty = false ∧ R (.ok (.ret (Value.ref s.heap.objs.size))) { s with heap := s.heap.push { cls := Value.type "tuple", data := Data.seq #[] }, toks := s.toks } :=
  .of_wp fun prog w A R s h => by
    obtain ⟨hp, g, d, tk, os⟩ := s; obtain ⟨h1, h2, h⟩ := h
    wp_walk
    exact ⟨_, rfl, h⟩
end PySem
namespace L2
open PySem PySem.Spec PyProof.Rows
/-- tuple * k, k from 0 on -/
def rRepA (K : PySem.W.Frag) : R2 := fun x y H Q => ∃ l k xs, x = .ref l ∧ y = .int k ∧ SqT K H l xs ∧ xs ≠ [] ∧ 0 ≤ k ∧ k ≤ 1000 ∧ xs.length ≤ 1000 ∧ (k = 1 → Q (.ref l) H) ∧ (k ≠ 1 → ∀ p, H p = none → Q (.ref p) (upd H p (.tup (List.replicate k.toNat xs).flatten)))
section
variable {X : Cx}
theorem op_repA : OpR X (binaryOp .Mult) (rRepA X.K) := by
  intro pins s σ H x y v u Q I rx ry h
  obtain ⟨l, k, xs, rfl, rfl, hT, hne, h1, h2, hz, q1, q2⟩ := h
  by_cases k2 : 2 ≤ k
  · exact op_repT pins s σ H _ _ v u Q I rx ry ⟨l, k, xs, rfl, rfl, hT, hne, k2, h2, hz, q2 (by omega)⟩
  cases rx
  obtain ⟨t, rfl⟩ := ry
  obtain ⟨its, r, ⟨⟨cls, dd, data, sl⟩, ho, hc, n, hd⟩, hs⟩ := I.tuple hT
  simp only at hc hd
  subst hc hd
  have hle : its.length = xs.length := r.length.symm
  have hn : its ≠ [] := fun e => hne (by
    rw [e] at hle
    exact List.eq_nil_of_length_eq_zero hle.symm)
  have hi : its.toArray.isEmpty = false := by
    cases its with
    | nil => exact absurd rfl hn
    | cons a b => rfl
  by_cases k1 : k = 1
  · subst k1
    refine wpAny_binaryOp_repeat_ref (T := "tuple") (U := "int") (by decide) ⟨_, ho, rfl⟩ (fun s' => typeIs_int s' 1 t) noFill_tuple_mul F.fills_int_mul F.slot_int_rmul repeat_tuple F.slot_int_index.lookup
      (call_meets F.slot_int_rmul (typeIs_int s 1 t) F.entry_int_rmul (F.args_int_rmul_2 _ _) (int_rmul_tuple 1 t l its.toArray n dd sl)
        ⟨ho, rfl, ⟨_, ho, rfl⟩, call_meets F.slot_tuple_mul ⟨_, ho, rfl⟩ F.entry_tuple_mul (F.args_tuple_mul_2 _ _) (gx_tuple_mul1 l its.toArray n dd sl t) ⟨ho, ?_⟩⟩)
    exact ⟨.ref l, H, I, rfl, q1 rfl⟩
  · have k0 : k = 0 := by omega
    subst k0
    refine wpAny_binaryOp_repeat_ref (T := "tuple") (U := "int") (by decide) ⟨_, ho, rfl⟩ (fun s' => typeIs_int s' 0 t) noFill_tuple_mul F.fills_int_mul F.slot_int_rmul repeat_tuple F.slot_int_index.lookup
      (call_meets F.slot_int_rmul (typeIs_int s 0 t) F.entry_int_rmul (F.args_int_rmul_2 _ _) (int_rmul_tuple 0 t l its.toArray n dd sl)
        ⟨ho, rfl, ⟨_, ho, rfl⟩, call_meets F.slot_tuple_mul ⟨_, ho, rfl⟩ F.entry_tuple_mul (F.args_tuple_mul_2 _ _) (gx_tuple_mul0 l its.toArray n dd sl t) ⟨ho, hi, ?_⟩⟩)
    refine ⟨.ref s.heap.objs.size, _, I.laid (t' := s.toks) (o := .tup []) (fun b ob q => Heap.get?_push_of_some _ q) (Nat.le_refl _) ?_, rfl, q2 k1 _ (I.hok.fresh (Nat.le_refl _))⟩
    exact ⟨Nat.zero_le _, [], .nil, IsTup.new _ _⟩
end
end L2

set_option Elab.async false
set_option linter.all false
set_option maxRecDepth 100000
set_option maxHeartbeats 4000000
namespace L2
open PySem PySem.Spec PyProof.Rows
section
variable {X : Cx} {CX : CXT} {k : Nat} {f C : Addr} {fd : FuncData} {ps ks : List Str} {sp : Sp} {E : St → XK} {x m : Str} {p pos apos : Pos} {e o : Expr} {es : List Expr} {kws : List Keyword} {te ta : TE} {t tk : TA} {g : List Value → List Value → List Value} {gV : List V → List V → List V}
/-- a call with keywords inside a try -/
def tCallKS (sp : Sp) (gV : List V → List V → List V) (E : St → XK) (t tk : TA) : TE := fun σ H Q => t σ H fun vs H1 => tk σ H1 fun zs H2 => sp (gV vs zs) H2 Q (E σ)
theorem run_fnks {pins : List (Addr × Obj)} {σ : St} {H : Hp} {s : Shared} {Q : VK} {us ws : List Value} {vs zs : List V} (F : FnOk X.prog X.w X.K X.mg X.base CX k f fd ps sp) (hr : Room k X.A) (hb : KBinds X.K fd ps ks g gV) (hx : PassesAt CX X σ (E σ))
    (I : Inv X pins σ H s) (r : Vals vs us) (rz : Vals zs ws) (h : sp (gV vs zs) H Q (E σ)) : wpAny (model X.prog X.w) X.A (call (.ref f) us (ks.zip ws)) (EP X pins σ Q) X.xe s := by
  have r2 := hb.rel r rz
  have hl : (g us ws).length = ps.length := by rw [← r2.length]; exact F.len _ _ _ _ h
  refine wpAny_call (codeAny_mono (F.run X.A X.stack s H ⟨us, ks.zip ws⟩ (g us ws) (gV vs zs) Q (E σ) hr I.env0 (hb.to s us ws I.kIn hl) r2 h) fun r s' hq => ?_)
  cases r with
  | error e => exact hx pins H s e s' I hq
  | ok fl =>
    cases fl with
    | ret u => exact I.after hq
    | next => exact False.elim hq
    | brk => exact False.elim hq
    | cont => exact False.elim hq
theorem pe_callKS (F : FnOk X.prog X.w X.K X.mg X.base CX k f fd ps sp) (hr : Room k X.A) (hg : Gl X x) (hm : X.mg x = some (.ref f)) (hk : PySem.W.keepIn X.K (.ref f) = true) (hb : KBinds X.K fd ps ks g gV) (hx : ∀ σ, PassesAt CX X σ (E σ))
    (ha : PA X (e :: es) t) (hkw : PK X kws tk) (hall : (backToKw pos (keywordEach kws X.env)).all (·.1.isSome) = true := by rfl) (hks : (backToKw pos (keywordEach kws X.env)).filterMap (·.1) = ks := by rfl)
    (hdb : (x == ("__debug__" : Str)) = false := by decide) (he : starEach (e :: es) X.env = (false, eval e X.env) :: starEach es X.env := by rfl)
    (hpl : ((backTo pos (starEach (e :: es) X.env)).any (·.1) || (backToKw pos (keywordEach kws X.env)).any (·.1.isNone)) = false := by rfl) :
    PE X (.Call (.Name x p) (e :: es) kws pos) (tCallKS sp gV E t tk) := by
  refine ⟨fun pins s σ H Q I h => ?_⟩
  refine wpAny_Call_Name_kw (ld_glob I hg hm ?_ hdb)
  refine PySem.W.callWith_KW (h₀ := X.base) I.ok.mod.kin hk hall (thn (ha.run pos pins s σ H _ I h) fun us s1 ⟨vs, H1, I1, r, q⟩ => ?_) hpl he
  refine thn (hkw.run pos pins s1 σ H1 _ I1 q) fun ws s2 ⟨zs, H2, I2, rz, q2⟩ => ⟨I2.kIn, ?_⟩
  rw [hks]
  exact run_fnks F hr hb (hx σ) I2 r rz q2
end
end L2

set_option Elab.async false
set_option linter.all false
set_option maxRecDepth 100000
set_option maxHeartbeats 4000000
/-! list(enumerate(v)) over what is drawn -/
namespace PySem
theorem gx_no_len : typeLookup (.type "enumerate") "__len__" = pure none := am_miss_of_fast (by decide +kernel)
theorem gx_no_hint : typeLookup (.type "enumerate") "__length_hint__" = pure none := am_miss_of_fast (by decide +kernel)
section
variable {prog : Program} {w : World} {A : Around} {E : Value → Shared → Prop} {s : Shared}
variable {e it S : Addr} {fp : List Addr} {n : Nat} {R : Nat → Value → Prop} {St : Nat → Heap → Prop}
theorem gx_next_held {T : Addr} {i : Nat} {old : Value} {f : Bool} {oT : Obj} {Q : Value → Shared → Prop} (D : Draws prog w A it fp n R St)
    (he : IsEnumHeld s.heap e it i old T f) (oT1 : s.heap.get? T = some oT) (t1 : T ≠ e) (t2 : T ≠ it) (st : St i s.heap) (lt : i < n) (ne : e ≠ it) (nf : e ∉ fp)
    (hQ : ∀ x h' tk, R i x → IsEnumHeld h' e it ((i : Int) + 1) old T true → St (i + 1) h' → h'.get? s.heap.objs.size = some { cls := .type "tuple", data := .seq #[.int i tk, x] } → h'.objs.size = s.heap.objs.size + 1 →
      (∀ b o, b ≠ e → b ≠ it → s.heap.get? b = some o → h'.get? b = some o) → Q (.ref s.heap.objs.size) { s with heap := h', toks := tk + 1 }) :
    wpAny (model prog w) A (Builtin.«enumerate.__next__» ⟨[.ref e], []⟩) (fun fin s' => ∃ v, fin = .done (.ret v) ∧ Q v s') E s := by
  obtain ⟨hp, gg, dd, tk0, os⟩ := s
  show wpAny _ _ (field (.ref e) 2 >>= _) _ _ _
  refine wpAny_bind (wpAny_field he rfl (x := .ref it) rfl ?_)
  refine wpAny_bind (D.item i _ _ _ lt st fun x ha tk rx sa ka => ?_)
  have ka : Heap.SameBut it hp ha := ka
  have ea : IsEnumHeld ha e it i old T f := (ka.2 e ne).trans he
  show wpAny _ _ (field (.ref e) 3 >>= _) _ _ (⟨ha, gg, dd, tk, os⟩ : Shared)
  refine wpAny_bind (wpAny_field ea rfl (x := rawInt i) rfl ?_)
  show wpAny _ _ (field (.ref e) 4 >>= _) _ _ (⟨ha, gg, dd, tk, os⟩ : Shared)
  refine wpAny_bind (wpAny_field ea rfl (x := .none) rfl ?_)
  show wpAny _ _ (mkInt i >>= _) _ _ (⟨ha, gg, dd, tk, os⟩ : Shared)
  refine wpAny_bind (wpAny_mkInt ?_)
  show wpAny _ _ (setField (.ref e) 3 (rawInt ((i : Int) + 1)) >>= _) _ _ (⟨ha, gg, dd, tk + 1, os⟩ : Shared)
  refine wpAny_bind (wpAny_setField_rec ea (by simp) fun hb eb kb => ?_)
  have kb : Heap.SameBut e ha hb := kb
  have eb : IsEnumHeld hb e it ((i : Int) + 1) old T f := eb
  show wpAny _ _ (setField (.ref e) 4 .none >>= _) _ _ (⟨hb, gg, dd, tk + 1, os⟩ : Shared)
  refine wpAny_bind (wpAny_setField_rec eb (by simp) fun hc ec kc => ?_)
  have kc : Heap.SameBut e hb hc := kc
  have ec : IsEnumHeld hc e it ((i : Int) + 1) old T f := ec
  show wpAny _ _ (newTuple [.int i tk, x] >>= _) _ _ (⟨hc, gg, dd, tk + 1, os⟩ : Shared)
  refine wpAny_bind (wpAny_newTuple ?_)
  have z1 : hc.objs.size = hp.objs.size := (kc.1.trans kb.1).trans ka.1
  have le : e < hp.objs.size := Heap.lt_size he
  have ed : IsEnumHeld (hc.push { cls := .type "tuple", data := .seq #[.int i tk, x] }) e it ((i : Int) + 1) old T f := Heap.get?_push_of_some _ ec
  have td : (hc.push { cls := .type "tuple", data := .seq #[.int i tk, x] }).get? hp.objs.size = some { cls := .type "tuple", data := .seq #[.int i tk, x] } := by
    rw [← z1]
    exact Heap.get?_push_size _ rfl
  have zd : (hc.push { cls := .type "tuple", data := .seq #[.int i tk, x] }).objs.size = hp.objs.size + 1 := by rw [Heap.size_push, z1]
  have kd : ∀ b o, b ≠ e → b ≠ it → hp.get? b = some o → (hc.push { cls := .type "tuple", data := .seq #[.int i tk, x] }).get? b = some o := fun b o n1 n2 q =>
    Heap.get?_push_of_some _ (kc.extBut b o n1 (kb.extBut b o n1 (ka.extBut b o n2 q)))
  have sd : St (i + 1) (hc.push { cls := .type "tuple", data := .seq #[.int i tk, x] }) := D.frame _ _ _ sa fun b hb' o q => by
    have n1 : b ≠ e := fun z => nf (z ▸ hb')
    exact Heap.get?_push_of_some _ (kc.extBut b o n1 (kb.extBut b o n1 q))
  generalize hc.push { cls := .type "tuple", data := .seq #[.int i tk, x] } = hd at ed td zd kd sd
  show wpAny _ _ (Builtin.SmallTypes.ownedTupleIsFree (.ref e) >>= _) _ _ (⟨hd, gg, dd, tk + 1, os⟩ : Shared)
  rw [z1]
  refine wpAny_bind (wpAny_tupleHeld_enum (s := ⟨hd, gg, dd, tk + 1, os⟩) ed (kd T oT t1 t2 oT1) fun hf ef kf => ?_)
  have kf : Heap.SameBut e hd hf := kf
  simp only [Bool.false_eq_true, if_false]
  refine wpAny_pure ⟨_, rfl, hQ x hf tk rx ef (D.frame _ _ _ sd fun b hb' o q => kf.extBut b o (fun z => nf (z ▸ hb')) q) (kf.extBut _ _ (Nat.ne_of_gt le) td) ?_ fun b o n1 n2 q => kf.extBut b o n1 (kd b o n1 n2 q)⟩
  show hf.objs.size = hp.objs.size + 1
  rw [kf.1, zd]
/-- the enumerate object ahead of turn i: fresh, or with a tuple still out -/
def EnSt (St : Nat → Heap → Prop) (h : Heap) (e it S : Addr) (i : Nat) : Prop := St i h ∧ ((∃ old, IsEnum h e it i old) ∨ ∃ old T f oT, IsEnumHeld h e it i old T f ∧ h.get? T = some oT ∧ T ≠ e ∧ T ≠ it ∧ T ≠ S)
theorem EnSt.keep {h h' : Heap} {i : Nat} (st : EnSt St h e it S i) (D : ∀ i h h', St i h → (∀ b ∈ fp, ∀ o, h.get? b = some o → h'.get? b = some o) → St i h') (nS : S ∉ fp) (nE : e ≠ S) (k : ∀ b o, b ≠ S → h.get? b = some o → h'.get? b = some o) : EnSt St h' e it S i := by
  obtain ⟨st, q⟩ := st
  refine ⟨D _ _ _ st fun b hb o y => k b o (fun z => nS (z ▸ hb)) y, ?_⟩
  rcases q with ⟨old, q⟩ | ⟨old, T, f, oT, q, y, r1, r2, r3⟩
  · exact .inl ⟨old, k e _ nE q⟩
  · exact .inr ⟨old, T, f, oT, k e _ nE q, k T oT r3 y, r1, r2, r3⟩
theorem gx_item {i : Nat} {Q : Option Value → Shared → Prop} (D : Draws prog w A.in1 it fp n R St) (ne : e ≠ it) (nf : e ∉ fp) (hS : S < s.heap.objs.size) (st : EnSt St s.heap e it S i) (lt : i < n)
    (hQ : ∀ x h' tk, R i x → EnSt St h' e it S (i + 1) → h'.get? s.heap.objs.size = some { cls := .type "tuple", data := .seq #[.int i tk, x] } → (∀ b o, b ≠ e → b ≠ it → s.heap.get? b = some o → h'.get? b = some o) → Q (some (.ref s.heap.objs.size)) { s with heap := h', toks := tk + 1 }) :
    wpAny (model prog w) A (pyNext (.ref e)) Q E s := by
  obtain ⟨st, q⟩ := st
  have ec : ((i + 1 : Nat) : Int) = (i : Int) + 1 := by omega
  have lit : it < s.heap.objs.size := let ⟨_, y⟩ := D.live _ _ st; Heap.lt_size y
  rcases q with ⟨old, q⟩ | ⟨old, T, f, oT, q, y, r1, r2, r3⟩
  · have le : e < s.heap.objs.size := Heap.lt_size q
    exact wpAny_pyNext_enum_itemC D q st lt ne nf fun x h' tk rx ho st' hT hz hk => hQ x h' tk rx ⟨st', .inr ⟨x, s.heap.objs.size, false, _, by rw [ec]; exact ho, hT, Nat.ne_of_gt le, Nat.ne_of_gt lit, Nat.ne_of_gt hS⟩⟩ hT hk
  · have hy : s.TypeIs (.ref e) "enumerate" := ⟨_, q, rfl⟩
    unfold pyNext
    refine wpAny_bind (wpAny_attempt (wpAny_callSpecial?_slot (name := Str.ofString "__next__") hy F.slot_enumerate_next (wpAny_call_entry F.slot_enumerate_next hy F.entry_enumerate_next
      (gx_next_held D q y r1 r2 st lt ne nf fun x h' tk rx ho st' hT hz hk => wpAny_pure (hQ x h' tk rx ⟨st', .inr ⟨old, T, true, oT, by rw [ec]; exact ho, hk T oT r1 r2 y, r1, r2, r3⟩⟩ hT hk)) (F.args_enumerate_next_1 _))))
theorem gx_done {Q : Option Value → Shared → Prop} (D : Draws prog w A.in1 it fp n R St) (st : EnSt St s.heap e it S n) (hQ : ∀ h', Heap.ExtBut it s.heap h' → Q none { s with heap := h' }) : wpAny (model prog w) A (pyNext (.ref e)) Q E s := by
  obtain ⟨st, q⟩ := st
  rcases q with ⟨old, q⟩ | ⟨old, T, f, oT, q, y, r1, r2, r3⟩
  · exact wpAny_pyNext_enum_endD D q st hQ
  · have hy : s.TypeIs (.ref e) "enumerate" := ⟨_, q, rfl⟩
    unfold pyNext
    refine wpAny_bind (wpAny_attempt (wpAny_callSpecial?_slot (name := Str.ofString "__next__") hy F.slot_enumerate_next (wpAny_call_entry F.slot_enumerate_next hy F.entry_enumerate_next ?_ (F.args_enumerate_next_1 _))))
    show wpAny _ _ (field (.ref e) 2 >>= _) _ _ _
    refine wpAny_bind (wpAny_field q rfl (x := .ref it) rfl ?_)
    refine wpAny_bind (D.done _ _ _ st fun h' x he' hx' => ?_)
    obtain ⟨o, ho, hc⟩ := hx'
    exact wpAny_bind (wpAny_isInstance (T := "StopIteration") (b := true) ⟨o, ho, hc⟩ isSubtype_stop (wpAny_pure (hQ _ he')))
/-- the tuples given out so far -/
structure EnG (R : Nat → Value → Prop) (lo : Addr) (h : Heap) (as : List Addr) : Prop where
  nd : as.Nodup
  above : ∀ a ∈ as, lo < a
  pairs : ∀ (j : Nat) (a : Addr), as[j]? = some a → ∃ tk x, R j x ∧ h.get? a = some { cls := .type "tuple", data := .seq #[.int j tk, x] }
end
end PySem

set_option Elab.async false
set_option linter.all false
set_option maxRecDepth 100000
set_option maxHeartbeats 4000000
namespace PySem
section
variable {prog : Program} {w : World} {A : Around} {s : Shared} {Z : Result → Shared → Prop}
variable {e it S : Addr} {fp : List Addr} {n : Nat} {R : Nat → Value → Prop} {St : Nat → Heap → Prop}
/-- the list S is being filled from e: i tuples are out -/
structure EnAt (St : Nat → Heap → Prop) (R : Nat → Value → Prop) (e it S : Addr) (h0 h : Heap) (i : Nat) (acc : Array Value) (c : Nat) (as : List Addr) : Prop where
  sh : h.get? S = some { cls := .type "list", dict := none, data := .seq acc c, slots := #[] }
  ac : acc.toList = as.map Value.ref
  ln : as.length = i
  gr : EnG R S h as
  kp : ∀ b o, b ≠ S → b ≠ e → b ≠ it → h0.get? b = some o → h.get? b = some o
theorem en_fill (hi : it < S) (he : e < S) (ne : e ≠ it) (nf : e ∉ fp) (nS : S ∉ fp) (hn : n ≤ sizeLine) (D : Draws prog w A.in1.in1 it fp n R St) (res : Value) {h0 : Heap}
    (hZ : ∀ h' tk acc c as, EnAt St R e it S h0 h' n acc c as → Z (.ok (.ret res)) { s with heap := h', toks := tk }) :
    ∀ (k i : Nat) (h : Heap) (tk c : Nat) (acc : Array Value) (as : List Addr), n - i = k → i ≤ n → EnSt St h e it S i → EnAt St R e it S h0 h i acc c as →
      codeAny (model prog w) A (.builtin "list.extend.loop" ⟨[.ref S, .ref e, res], []⟩) Z { s with heap := h, toks := tk } := by
  intro k
  induction k with
  | zero =>
    intro i h tk c acc as e0 le st at0
    obtain rfl : i = n := by omega
    refine codeAny_builtin F.entry_extend_loop ?_
    rw [Around.under_plainId F.plain_extend_loop _]
    show wpAny _ A.in1 (pyNext (.ref e) >>= _) _ _ _
    refine wpAny_bind (gx_done (s := { s with heap := h, toks := tk }) D st fun h' ex => ?_)
    exact wpAny_pure (hZ h' tk acc c as ⟨ex S _ (Nat.ne_of_gt hi) at0.sh, at0.ac, at0.ln, ⟨at0.gr.nd, at0.gr.above, fun j a q => let ⟨t, x, z1, z2⟩ := at0.gr.pairs j a q; ⟨t, x, z1, ex a _ (Nat.ne_of_gt (Nat.lt_trans hi (at0.gr.above a (List.mem_of_getElem? q)))) z2⟩⟩, fun b o z1 z2 z3 z4 => ex b o z3 (at0.kp b o z1 z2 z3 z4)⟩)
  | succ k more =>
    intro i h tk c acc as e0 le st at0
    have lt : i < n := by omega
    have z0 : acc.size = i := by rw [← Array.length_toList, at0.ac, List.length_map, at0.ln]
    have lS : S < h.objs.size := Heap.lt_size at0.sh
    refine codeAny_builtin F.entry_extend_loop ?_
    rw [Around.under_plainId F.plain_extend_loop _]
    show wpAny _ A.in1 (pyNext (.ref e) >>= _) _ _ _
    refine wpAny_bind (gx_item (s := { s with heap := h, toks := tk }) D ne nf lS st lt fun x h1 tk1 rx st1 hT k1 => ?_)
    dsimp only at hT k1 ⊢
    have sh1 := k1 S _ (Nat.ne_of_gt he) (Nat.ne_of_gt hi) at0.sh
    have k2 : ∀ b o, b ≠ S → h1.get? b = some o → (h1.update S (Obj.mapSeq (·.push (Value.ref h.objs.size)))).get? b = some o := fun b o q z => (Heap.get?_update_other _ _ (Ne.symm q)).trans z
    have k3 : ∀ b o, b ≠ S → b ≠ e → b ≠ it → h.get? b = some o → (h1.update S (Obj.mapSeq (·.push (Value.ref h.objs.size)))).get? b = some o := fun b o q1 q2 q3 z => k2 b o q1 (k1 b o q2 q3 z)
    show wpAny _ A.in1 (updateSeq S (·.push (Value.ref h.objs.size)) >>= _) _ _ _
    refine wpAny_bind (wpAny_updateSeq sh1 rfl (wpAny_pure ⟨plainId_quiet F.plain_extend_loop _, more (i + 1) _ _ _ (acc.push (Value.ref h.objs.size)) (as ++ [h.objs.size]) (by omega) lt (st1.keep D.frame nS (Nat.ne_of_lt he) k2) ⟨Heap.get?_update_self _ sh1 rfl, ?_, ?_, ⟨?_, ?_, ?_⟩, ?_⟩⟩) (by rw [z0]; omega) (by show (acc.push (Value.ref h.objs.size)).size ≤ sizeLine + 1; rw [Array.size_push, z0]; omega))
    · rw [Array.toList_push, at0.ac, List.map_append]; rfl
    · rw [List.length_append, at0.ln]; rfl
    · refine List.nodup_append.mpr ⟨at0.gr.nd, List.nodup_cons.mpr ⟨by simp, List.nodup_nil⟩, fun a ha b hb => ?_⟩
      obtain ⟨j, hj⟩ := List.mem_iff_getElem?.mp ha
      obtain ⟨_, _, _, z⟩ := at0.gr.pairs j a hj
      rw [List.mem_singleton.mp hb]
      exact Nat.ne_of_lt (Heap.lt_size z)
    · intro a ha
      rcases List.mem_append.mp ha with ha | ha
      · exact at0.gr.above a ha
      · rw [List.mem_singleton.mp ha]; exact lS
    · intro j b hj
      by_cases hl : j < as.length
      · rw [List.getElem?_append_left hl] at hj
        obtain ⟨t, y, z1, z2⟩ := at0.gr.pairs j b hj
        have ab := at0.gr.above b (List.mem_of_getElem? hj)
        exact ⟨t, y, z1, k3 b _ (Nat.ne_of_gt ab) (Nat.ne_of_gt (Nat.lt_trans he ab)) (Nat.ne_of_gt (Nat.lt_trans hi ab)) z2⟩
      · rw [List.getElem?_append_right (Nat.le_of_not_lt hl)] at hj
        have hj0 : j - as.length = 0 := by
          cases hd : j - as.length with
          | zero => rfl
          | succ m => rw [hd] at hj; simp at hj
        rw [hj0] at hj
        obtain rfl : h.objs.size = b := by simpa using hj
        obtain rfl : j = i := by have := at0.ln; omega
        exact ⟨tk1, x, rx, k2 _ _ (Nat.ne_of_gt lS) hT⟩
    · exact fun b o q1 q2 q3 z => k3 b o q1 q2 q3 (at0.kp b o q1 q2 q3 z)
theorem en_hint {Q : Bool → Shared → Prop} {E : Value → Shared → Prop} (ty : s.TypeIs (.ref e) "enumerate") (h : Q true s) : wpAny (model prog w) A (Builtin.List.listLengthHint (.ref e)) Q E s := by
  unfold Builtin.List.listLengthHint
  refine wpAny_bind (wpAny_specialOf ty gx_no_len ?_)
  show wpAny _ _ (specialOf (Value.ref e) (Str.ofString "__length_hint__") >>= _) _ _ _
  exact wpAny_bind (wpAny_specialOf ty gx_no_hint (wpAny_pure h))
theorem en_extend (hi : it < S) (he : e < S) (ne : e ≠ it) (nf : e ∉ fp) (nS : S ∉ fp) (hn : n ≤ sizeLine) (D : Draws prog w A.in1.in1 it fp n R St) (res : Value) {c0 : Nat} (sh : s.heap.get? S = some { cls := .type "list", data := .seq #[] c0 }) (q : IsEnum s.heap e it 0 .none) (st : St 0 s.heap)
    (hZ : ∀ h' tk acc c as, EnAt St R e it S s.heap h' n acc c as → Z (.ok (.ret res)) { s with heap := h', toks := tk }) :
    wpAny (model prog w) A.in1 (Builtin.List.listExtendWith (.ref S) (.ref e) res)
      (fun fin s' => match fin with | .done f => Z (.ok f) s' | .again c' => c'.quiet = true ∧ codeAny (model prog w) A c' Z s') (fun x s' => Z (.error x) s') s := by
  have ty : s.TypeIs (.ref e) "enumerate" := ⟨_, q, rfl⟩
  have n1 : Builtin.List.listSameRef (.ref S) (.ref e) = false := by simp [Builtin.List.listSameRef, Nat.ne_of_gt he]
  have n2 : (Value.type "enumerate" == Value.type "list") = false := by decide
  have n3 : (Value.type "enumerate" == Value.type "tuple") = false := by decide
  unfold Builtin.List.listExtendWith
  refine wpAny_bind (wpAny_typeOf ty ?_)
  simp only [n1, n2, n3, Bool.or_false, Bool.false_eq_true, if_false]
  refine wpAny_bind (wpAny_pyIter_enum q ?_)
  refine wpAny_bind (wpAny_holding (en_hint ty ?_))
  show wpAny _ A.in1 (rule "list.extend.makes-room" >>= fun _ => Builtin.List.listTouch (.ref S) >>= fun _ => again (.builtin "list.extend.loop" ⟨[.ref S, .ref e, res], []⟩)) _ _ _
  refine wpAny_bind (wpAny_rule ?_)
  refine wpAny_bind ?_
  show wpAny _ _ (updateSeq S (·.push .none) >>= fun _ => updateSeq S (·.pop)) _ _ _
  refine wpAny_bind (wpAny_updateSeq sh rfl ?_)
  have sh1 := Heap.get?_update_self (Obj.mapSeq (·.push Value.none)) sh rfl
  refine wpAny_updateSeq (hz := by seq_fits) sh1 rfl ?_
  have sh2 := Heap.get?_update_self (Obj.mapSeq (·.pop)) sh1 rfl
  have k : ∀ b o, b ≠ S → s.heap.get? b = some o → ((s.heap.update S (Obj.mapSeq (·.push Value.none))).update S (Obj.mapSeq (·.pop))).get? b = some o := fun b o y z => (Heap.get?_update_other _ _ (Ne.symm y)).trans ((Heap.get?_update_other _ _ (Ne.symm y)).trans z)
  have st1 : EnSt St s.heap e it S 0 := ⟨st, .inl ⟨.none, q⟩⟩
  exact wpAny_pure ⟨plainId_quiet F.plain_extend_loop _, en_fill (s := s) (h0 := s.heap) hi he ne nf nS hn D res hZ n 0 _ s.toks _ #[] [] (Nat.sub_zero _) (Nat.zero_le _) (st1.keep D.frame nS (Nat.ne_of_lt he) k) ⟨sh2, rfl, rfl, ⟨List.nodup_nil, (fun _ z => nomatch z), fun j a z => by simp at z⟩, fun b o y _ _ z => k b o y z⟩⟩
theorem en_init (hi : it < S) (he : e < S) (ne : e ≠ it) (nf : e ∉ fp) (nS : S ∉ fp) (hn : n ≤ sizeLine) (D : Draws prog w A.in1.in1 it fp n R St) (sh : s.heap.get? S = some { cls := .type "list", data := .seq #[] }) (q : IsEnum s.heap e it 0 .none) (st : St 0 s.heap)
    (hZ : ∀ h' tk acc c as, EnAt St R e it S s.heap h' n acc c as → Z (.ok (.ret .none)) { s with heap := h', toks := tk }) :
    wpAny (model prog w) A.in1 (Builtin.«list.__init__» ⟨[.ref S, .ref e], []⟩)
      (fun fin s' => match fin with | .done f => Z (.ok f) s' | .again c' => c'.quiet = true ∧ codeAny (model prog w) A c' Z s') (fun x s' => Z (.error x) s') s := by
  show wpAny _ _ (Builtin.List.listItems (.ref S) >>= fun old => Builtin.List.listUpdate (.ref S) (fun _ => #[]) >>= fun _ => letGo old.toList.reverse >>= fun _ => Builtin.List.listExtendWith (.ref S) (.ref e) .none) _ _ s
  refine wpAny_bind ?_
  unfold Builtin.List.listItems
  refine wpAny_bind (wpAny_seqItems sh rfl (wpAny_pure ?_))
  show wpAny _ _ (updateSeq S (fun _ => #[]) >>= fun _ => letGo (#[] : Array Value).toList.reverse >>= fun _ => Builtin.List.listExtendWith (.ref S) (.ref e) .none) _ _ s
  refine wpAny_bind (wpAny_updateSeq sh rfl ?_)
  have sh1 := Heap.get?_update_self (Obj.mapSeq (fun _ => (#[] : Array Value))) sh rfl
  have k : ∀ b o, b ≠ S → s.heap.get? b = some o → (s.heap.update S (Obj.mapSeq (fun _ => (#[] : Array Value)))).get? b = some o := fun b o y z => (Heap.get?_update_other _ _ (Ne.symm y)).trans z
  refine wpAny_bind (wpAny_letGo ?_)
  exact en_extend hi he ne nf nS hn D .none sh1 (k _ _ (Nat.ne_of_lt he) q) (D.frame _ _ _ st fun b hb o z => k b o (fun y => nS (y ▸ hb)) z) fun h' tk acc c as z => hZ h' tk acc c as ⟨z.sh, z.ac, z.ln, z.gr, fun b o y1 y2 y3 y => z.kp b o y1 y2 y3 (k b o y1 y)⟩
theorem en_call {Q : Value → Shared → Prop} {E : Value → Shared → Prop} (ne : e ≠ it) (nf : e ∉ fp) (hf : ∀ b ∈ fp, b < s.heap.objs.size) (hn : n ≤ sizeLine) (D : Draws prog w A.in1.in1.in1 it fp n R St) (q : IsEnum s.heap e it 0 .none) (st : St 0 s.heap)
    (hQ : ∀ h' tk acc c as, EnAt St R e it s.heap.objs.size s.heap h' n acc c as → Q (.ref s.heap.objs.size) { s with heap := h', toks := tk }) :
    wpAny (model prog w) A (call (.type "list") [.ref e]) Q E s := by
  refine callType_codes (Q₁ := fun v s1 => v = .ref s.heap.objs.size ∧ s1 = { s with heap := s.heap.push { cls := .type "list", data := .seq #[] } }) F.called_list (F.typeCall_list_1 _) F.entry_list_init (code_list_new _ ⟨rfl, rfl⟩) fun v s1 y => ?_
  obtain ⟨rfl, rfl⟩ := y
  have sh : (s.heap.push { cls := .type "list", data := .seq #[] }).get? s.heap.objs.size = some { cls := .type "list", data := .seq #[] } := Heap.get?_push_size _ rfl
  have lit : it < s.heap.objs.size := let ⟨_, y⟩ := D.live _ _ st; Heap.lt_size y
  refine ⟨⟨_, sh, rfl⟩, F.args_list_init_2 _ _, en_init (A := A.in1) lit (Heap.lt_size q) ne nf (fun y => Nat.lt_irrefl _ (hf _ y)) hn D sh (Heap.get?_push_of_some _ q) (D.frame _ _ _ st fun b _ o z => Heap.get?_push_of_some _ z) fun h' tk acc c as z => ?_⟩
  exact ⟨rfl, hQ h' tk acc c as ⟨z.sh, z.ac, z.ln, z.gr, fun b o y1 y2 y3 y => z.kp b o y1 y2 y3 (Heap.get?_push_of_some _ y)⟩⟩
end
end PySem

set_option Elab.async false
set_option linter.all false
set_option maxRecDepth 100000
set_option maxHeartbeats 4000000
namespace GX
open PySem PySem.Spec PyProof.Rows L2
/-- the pairs (j, x) at their addresses -/
def putE : Hp → Nat → List Addr → List V → Hp
  | H, j, a :: as, x :: xs => putE (upd H a (.tup [.int (j : Nat), x])) (j + 1) as xs
  | H, _, _, _ => H
theorem putE_off {b : Addr} : ∀ (as : List Addr) (xs : List V) (H : Hp) (j : Nat), b ∉ as → putE H j as xs b = H b
  | [], _, _, _, _ => rfl
  | _ :: _, [], _, _, _ => rfl
  | a :: as, x :: xs, H, j, q => by
    show putE (upd H a _) (j + 1) as xs b = H b
    rw [putE_off as xs _ _ (fun z => q (List.mem_cons_of_mem _ z)), upd_ne (fun z => q (by rw [z]; exact List.mem_cons_self))]
theorem putE_on : ∀ (as : List Addr) (xs : List V) (H : Hp) (j : Nat), as.length = xs.length → as.Nodup → ∀ i t, as[i]? = some t → ∃ x, xs[i]? = some x ∧ putE H j as xs t = some (.tup [.int ((j + i : Nat) : Int), x])
  | [], _, _, _, _, _, i, t, q => by simp at q
  | _ :: _, [], _, _, l, _, _, _, _ => by cases l
  | a :: as, x :: xs, H, j, l, nd, i, t, q => by
    have nd' := List.nodup_cons.mp nd
    cases i with
    | zero =>
      obtain rfl : a = t := by simpa using q
      refine ⟨x, rfl, ?_⟩
      show putE (upd H a _) (j + 1) as xs a = _
      rw [putE_off as xs _ _ nd'.1, upd_same]
      rfl
    | succ i =>
      obtain ⟨y, y1, y2⟩ := putE_on as xs (upd H a (.tup [.int (j : Nat), x])) (j + 1) (Nat.succ.inj l) nd'.2 i t (by simpa using q)
      refine ⟨y, by simpa using y1, ?_⟩
      show putE (upd H a _) (j + 1) as xs t = _
      rw [y2, show j + 1 + i = j + (i + 1) by omega]
/-- ts hold the pairs (0, x0), (1, x1) .. -/
def EnumT (H : Hp) (ts : List Addr) (xs : List V) : Prop := ts.length = xs.length ∧ ∀ j t, ts[j]? = some t → ∃ x, xs[j]? = some x ∧ H t = some (.tup [.int (j : Nat), x])
theorem refs_vals : ∀ as : List Addr, Vals (as.map V.ref) (as.map Value.ref)
  | [] => .nil
  | _ :: as => .cons rfl (refs_vals as)
section
variable {X : Cx}
theorem enums_laid {pins : List (Addr × Obj)} {σ : L2.St} {H : Hp} {s : Shared} {h' : Heap} {tk : Nat} {xs : List V} {its : List Value} {acc : Array Value} {c : Nat} {as : List Addr} {S : Addr} (I : Inv X pins σ H s) (l0 : s.heap.objs.size ≤ S) (hz : xs.length ≤ sizeLine) (rv : Vals xs its)
    (hk : ∀ b o, s.heap.get? b = some o → h'.get? b = some o) (sh : h'.get? S = some { cls := .type "list", dict := none, data := .seq acc c, slots := #[] }) (hl : as.length = its.toArray.size) (g : EnG (fun i v => its.toArray[i]? = some v) S h' as) (ac : acc.toList = as.map Value.ref) :
    ∃ H' : Hp, (∀ b o, H b = some o → H' b = some o) ∧ H S = none ∧ (∀ t ∈ as, H t = none) ∧ S ∉ as ∧ as.Nodup ∧ H' S = some (.lst (as.map V.ref)) ∧ EnumT H' as xs ∧ Inv X pins σ H' { s with heap := h', toks := tk } := by
  have lx : as.length = xs.length := by rw [hl, rv.length]; simp
  have nS : S ∉ as := fun z => Nat.lt_irrefl _ (g.above _ z)
  have new : ∀ t ∈ as, H t = none := fun t ht => I.hok.fresh (Nat.le_trans l0 (Nat.le_of_lt (g.above t ht)))
  have newS : H S = none := I.hok.fresh l0
  have on := putE_on as xs (upd H S (.lst (as.map V.ref))) 0 lx g.nd
  have off : ∀ b, b ∉ as → b ≠ S → putE (upd H S (.lst (as.map V.ref))) 0 as xs b = H b := fun b z1 z2 => by rw [putE_off as xs _ _ z1, upd_ne z2]
  have atS : putE (upd H S (.lst (as.map V.ref))) 0 as xs S = some (.lst (as.map V.ref)) := by rw [putE_off as xs _ _ nS, upd_same]
  generalize putE (upd H S (.lst (as.map V.ref))) 0 as xs = H' at on off atS
  have kp : ∀ b u, H b = some u → H' b = some u := fun b u q => by
    rw [off b (fun z => by rw [new b z] at q; cases q) (fun z => by rw [z, newS] at q; cases q)]
    exact q
  have low : ∀ b o, s.heap.get? b = some o → b ∉ as ∧ b ≠ S := fun b o q => ⟨fun z => absurd (Heap.lt_size q) (Nat.not_lt.mpr (Nat.le_trans l0 (Nat.le_of_lt (g.above b z)))), Nat.ne_of_lt (Nat.lt_of_lt_of_le (Heap.lt_size q) l0)⟩
  refine ⟨H', kp, newS, new, nS, g.nd, atS, ⟨lx, fun j t q => by simpa using on j t q⟩, ?_⟩
  refine I.call' (ch := []) rfl ⟨fun b o q _ _ _ => hk b o q, fun b o q _ _ _ => ⟨o.slots, hk b o q⟩, fun b o q n _ => ?_, fun b o q _ => ⟨o, hk b o q⟩, fun b ys q => kp b _ q, fun b o u q => kp b _ q, fun b ps q => ⟨#[], by rw [kp b _ q]; simp⟩⟩ (fun b u q => ?_) I.bare fun b z => by simp at z
  · obtain ⟨z1, z2⟩ := low b o q
    rw [off b z1 z2]
    exact n
  · by_cases hb : b ∈ as
    · obtain ⟨j, hj⟩ := List.mem_iff_getElem?.mp hb
      obtain ⟨x, x1, x2⟩ := on j b hj
      rw [x2] at q
      cases q
      obtain ⟨t, v, v1, v2⟩ := g.pairs j b hj
      obtain ⟨u', u1, u2⟩ := rv.get x1
      have ev : v = u' := by
        have q : its[j]? = some v := by simpa using v1
        rw [u1] at q
        exact (Option.some.inj q).symm
      subst ev
      refine ⟨by show 2 ≤ sizeLine; decide, [.int j t, v], .cons ⟨t, by simp⟩ (.cons u2 .nil), ⟨_, v2, rfl, _, rfl⟩⟩
    · by_cases hb2 : b = S
      · subst hb2
        rw [atS] at q
        cases q
        exact ⟨by rw [List.length_map]; omega, acc.toList, c, by rw [ac]; exact refs_vals as, by rw [Array.toArray_toList]; exact sh⟩
      · rw [off b hb hb2] at q
        exact (I.hok b u q).stay (fun d v _ y => hk d v y) (fun d y => kp d _ y) fun d ys y => kp d _ y
theorem nmem2 (m a : Nat) (q : a < m) : m + 1 ∉ [m, a] := by
  intro z
  rcases List.mem_cons.mp z with z | z
  · omega
  · have := List.mem_singleton.mp z; omega
theorem ltOf2 (m a b k : Nat) (q : a < m) (hk : k = m + 2) (z : b ∈ [m, a]) : b < k := by
  rcases List.mem_cons.mp z with z | z
  · omega
  · have := List.mem_singleton.mp z; omega
theorem no1 (m b : Nat) (q : b < m) (z : b = m + 1) : False := by omega
theorem le2 (m k : Nat) (q : k = m + 2) : m ≤ k := by omega
theorem ltk (m b k : Nat) (q : b < m) (h : k = m + 2) (z : b = k) : False := by omega
def rEnumL (K : PySem.W.Frag) : V → Hp → VK → Prop := fun x H Q => ∃ (a : Addr) (xs : List V), x = .ref a ∧ (SqL K H a xs ∨ SqT K H a xs) ∧
  ∀ (H' : Hp) (p : Addr) (ts : List Addr), (∀ b o, H b = some o → H' b = some o) → H p = none → (∀ t ∈ ts, H t = none) → p ∉ ts → ts.Nodup → H' p = some (.lst (ts.map V.ref)) → EnumT H' ts xs → Q (.ref p) H'
def tListEnum (K : PySem.W.Frag) (te : TE) : TE := fun σ H Q => te σ H fun x H1 => rEnumL K x H1 Q
variable {e : Expr} {te : TE} {p p2 pos pos2 : Pos}
theorem pe_listEnum (hc : X.calm = true) (he : PE X e te) (hg : Gl X "list") (hm : X.mg "list" = none) (hv : bootBuiltins "list" = some (.type "list")) (hg2 : Gl X "enumerate") (hm2 : X.mg "enumerate" = none)
    (hs : starEach [.Call (.Name "enumerate" p2) [e] [] pos2] X.env = [(false, eval (.Call (.Name "enumerate" p2) [e] [] pos2) X.env)] := by rfl) (hs2 : starEach [e] X.env = [(false, eval e X.env)] := by rfl) :
    PE X (.Call (.Name "list" p) [.Call (.Name "enumerate" p2) [e] [] pos2] [] pos) (tListEnum X.K te) := by
  refine ⟨fun pins s σ H Q I hq => ?_⟩
  refine wpAny_Call_Name_kw (ld_blt I hg hm hv ?_)
  refine PyProof.Rows.callWith_type1 ?_ hs rfl
  rw [hs]
  show wpAny _ _ (spliced ((false, eval (.Call (.Name "enumerate" p2) [e] [] pos2) X.env) :: backTo pos [])) _ _ s
  refine Calls.spliced_cons ?_
  refine Call_ (ld_blt I hg2 hm2 boot_enumerate ?_)
  refine PyProof.Rows.callWith_type1 ?_ hs2 rfl
  rw [hs2]
  show wpAny _ _ (spliced ((false, eval e X.env) :: backTo pos2 [])) _ _ s
  refine Calls.spliced_cons (thn (he.run pins s σ H _ I hq) fun u s1 ⟨x, H1, I1, rx, a, xs, ex, hsq, q⟩ => ?_)
  subst ex
  obtain rfl : u = Value.ref a := rx
  refine Calls.spliced_nil ?_
  have fin : ∀ (its : List Value) (h2 h3 : Heap) (tk c : Nat) (acc : Array Value) (as : List Addr) (St : Nat → Heap → Prop), Vals xs its → xs.length ≤ sizeLine → h2.objs.size = s1.heap.objs.size + 2 → (∀ b o, s1.heap.get? b = some o → h2.get? b = some o) →
      EnAt St (fun i v => its.toArray[i]? = some v) (s1.heap.objs.size + 1) s1.heap.objs.size h2.objs.size h2 h3 its.toArray.size acc c as → ∃ v H', Inv X pins σ H' { s1 with heap := h3, toks := tk } ∧ RelV v (.ref h2.objs.size) ∧ Q v H' := by
    intro its h2 h3 tk c acc as St rv hz z2 k2 z
    obtain ⟨H', k1, k3, k4, k5, k6, k7, k8, J⟩ := enums_laid (tk := tk) (S := h2.objs.size) I1 (le2 _ _ z2) hz rv (fun b o y => z.kp b o (fun w => ltk _ _ _ (Heap.lt_size y) z2 w) (fun w => no1 _ _ (Heap.lt_size y) w) (fun w => by rw [w] at y; exact Nat.lt_irrefl _ (Heap.lt_size y)) (k2 b o y)) z.sh z.ln z.gr z.ac
    exact ⟨.ref h2.objs.size, H', J, rfl, q H' _ as k1 k3 k4 k5 k6 k7 k8⟩
  have hh := I1.ok.hd hc
  rcases hsq with hsq | hsq
  · obtain ⟨its, rv, pl, hz⟩ := I1.list hsq
    have la : a < s1.heap.objs.size := pl.lt
    refine call_enumerate_list pl.isList fun h2 he hit z2 k2 => ?_
    refine Calls.spliced_nil ?_
    have D := Draws.list (prog := X.prog) (w := X.w) (A := X.A.in1.in1.in1) hh s1.heap.objs.size a (Nat.ne_of_lt la) its.toArray
    refine en_call (s := { s1 with heap := h2 }) (Nat.succ_ne_self _) (nmem2 _ _ la) (fun b hb => ltOf2 _ _ _ _ la z2 hb) (by simpa [← rv.length] using hz) D he ⟨hit, pl.isList.at fun o y => k2 a o y⟩ fun h3 tk acc c as z => ?_
    exact fin its h2 h3 tk c acc as _ rv hz z2 k2 z
  · obtain ⟨its, rv, pl, hz⟩ := I1.tuple hsq
    have la : a < s1.heap.objs.size := pl.lt
    refine gx_enum1 (begins_tuple a its.toArray) (show s1.heap.IsTuple a its.toArray from pl) fun h2 he hit z2 k2 => ?_
    refine Calls.spliced_nil ?_
    have D := Draws.tuple (prog := X.prog) (w := X.w) (A := X.A.in1.in1.in1) hh s1.heap.objs.size a (Nat.ne_of_lt la) its.toArray
    refine en_call (s := { s1 with heap := h2 }) (Nat.succ_ne_self _) (nmem2 _ _ la) (fun b hb => ltOf2 _ _ _ _ la z2 hb) (by simpa [← rv.length] using hz) D he ⟨⟨_, hit, rfl, rfl⟩, (show s1.heap.IsTuple a its.toArray from pl).at fun o y => k2 a o y⟩ fun h3 tk acc c as z => ?_
    exact fin its h2 h3 tk c acc as _ rv hz z2 k2 z
end
end GX

set_option Elab.async false
set_option linter.all false
set_option maxRecDepth 100000
set_option maxHeartbeats 4000000
namespace GX
open PySem PySem.Spec PyProof.Rows L2
section
variable {X : Cx}
/-- lcm(a, b) of numbers not too great -/
def rLcm : List V → Hp → VK → Prop := fun vs H Q => ∃ a b : Nat, vs = [.int (a : Nat), .int (b : Nat)] ∧ a < 1000000000 ∧ b < 1000000000 ∧ Q (.int ((Nat.lcm a b : Nat) : Int)) H
theorem cr_lcm : CallR X (.builtin "math.lcm") rLcm := by
  intro pins s σ H vs us Q I r h
  obtain ⟨a, b, rfl, h1, h2, q⟩ := h
  obtain ⟨t, u, rfl⟩ := Vals.int2 r
  exact PySem.W.mc_lcm (by rw [Int.natAbs_natCast]; omega) (by rw [Int.natAbs_natCast]; omega) fun _ => ⟨.int _, H, I.tok _, ⟨_, rfl⟩, by rw [Int.natAbs_natCast, Int.natAbs_natCast]; exact q⟩
/-- l[i], l a list, by values -/
theorem get_list : PGet X (fun o i H Q => ∃ p xs j x, o = .ref p ∧ i = .int ((j : Nat) : Int) ∧ SqL X.K H p xs ∧ xs[j]? = some x ∧ Q x H) := by
  intro pins s σ H o i ov iv Q I ro ri h
  obtain ⟨p, xs, j, x, rfl, rfl, hq, hx, q⟩ := h
  cases ro
  obtain ⟨t, rfl⟩ := ri
  obtain ⟨its, r, pl, hz⟩ := I.list hq
  obtain ⟨u, hu, ru⟩ := r.get hx
  have hn := line63
  have hl := r.length
  have hj : j < xs.length := (List.getElem?_eq_some_iff.mp hx).1
  exact PySem.wpAny_getItem_list pl.isList (by omega) (by omega) (by simpa using hu) ⟨x, H, I, ru, q⟩
def ipN (f : Nat → Nat → Nat) (c : Nat → Nat → Prop) : TIp := fun x y H Q => ∃ m n : Nat, x = .int (m : Nat) ∧ y = .int (n : Nat) ∧ c m n ∧ Q (.int ((f m n : Nat) : Int)) H
theorem ip_addN : PIp X .Add (ipN (fun m n => m + n) fun _ _ => True) := by
  intro pins s σ H x y v u Q I r1 r2 ⟨m, n, e1, e2, _, q⟩
  exact ip_add pins s σ H x y v u Q I r1 r2 ⟨_, _, e1, e2, by rw [Int.natCast_add] at q; exact q⟩
theorem ip_subN : PIp X .Sub (ipN (fun m n => m - n) fun m n => n ≤ m) := by
  intro pins s σ H x y v u Q I r1 r2 ⟨m, n, e1, e2, c, q⟩
  exact ip_sub pins s σ H x y v u Q I r1 r2 ⟨_, _, e1, e2, by rw [Int.natCast_sub c] at q; exact q⟩
theorem in_addN : InOp X .Add (fun x y H Q => ∃ m n : Nat, x = .int (m : Nat) ∧ y = .int (n : Nat) ∧ Q (.int ((m + n : Nat) : Int)) H) := by
  intro pins s σ H x y v u Q I r1 r2 ⟨m, n, e1, e2, q⟩
  exact in_add pins s σ H x y v u Q I r1 r2 ⟨_, _, e1, e2, by rw [Int.natCast_add] at q; exact q⟩
theorem hu_of {k : Nat} {A : Around} (r : Room k A) : A.units + 1 < cLine := by have := r.units; omega
end
end GX

set_option Elab.async false
set_option linter.all false
set_option maxRecDepth 100000
set_option maxHeartbeats 4000000
namespace K7
open PySem PySem.Spec PyProof.Rows L2 GX NdefX
theorem same_upd {H : Hp} {p : Addr} {o : HO} (h : H p = none) : Same H (upd H p o) := fun b x e => by
  rw [upd_ne (ne_of_none e h)]
  exact e
/-- a list or a tuple of ours -/
def Sq (H : Hp) (a : Addr) (xs : List V) : Prop := H a = some (.lst xs) ∨ H a = some (.tup xs)
theorem Sq.same {H H' : Hp} {a : Addr} {xs : List V} (s : Same H H') (h : Sq H a xs) : Sq H' a xs := h.elim (fun z => .inl (s _ _ z)) fun z => .inr (s _ _ z)
theorem sqL {K : PySem.W.Frag} {H : Hp} {a : Addr} {xs : List V} (h : H a = some (.lst xs)) : SqL K H a xs := .inl (.inl h)
theorem sqT {K : PySem.W.Frag} {H : Hp} {a : Addr} {xs : List V} (h : H a = some (.tup xs)) : SqT K H a xs := .inl (.inl h)
theorem Sq.lt {K : PySem.W.Frag} {H : Hp} {a : Addr} {xs : List V} (h : Sq H a xs) : SqL K H a xs ∨ SqT K H a xs := h.elim (fun z => .inl (sqL z)) fun z => .inr (sqT z)
theorem Sq.ty {K : PySem.W.Frag} {H : Hp} {a : Addr} {xs : List V} (h : Sq H a xs) : TyX K H (.ref a) (.type "list") ∨ TyX K H (.ref a) (.type "tuple") := h.elim (fun z => .inl (.base (.lst z))) fun z => .inr (.base (.tup z))
theorem new_ne {H : Hp} {a p : Addr} {o : HO} (h : H a = some o) (np : H p = none) : a ≠ p := ne_of_none h np
/-- a walk of a list or a tuple -/
def iSeq (K : PySem.W.Frag) (tl : TE) : TI := fun σ H R => tl σ H fun x H1 => ∃ a xs, x = .ref a ∧ ((SqL K H1 a xs ∧ R (Itl K a) H1) ∨ (SqT K H1 a xs ∧ R (Itt K a) H1))
theorem pi_seq {X : Cx} {tg l : Expr} {tl : TE} (hl : PE X l tl) : PI X tg l (iSeq X.K tl) := by
  refine ⟨fun pins s σ H R I h => ?_⟩
  refine thn (hl.run pins s σ H _ I h) fun v s1 ⟨x, H1, I1, r1, q1⟩ => ?_
  obtain ⟨a, xs, e, q⟩ := q1
  subst e
  cases r1
  rcases q with ⟨hq, q⟩ | ⟨hq, q⟩
  · obtain ⟨its, rv, p, hz⟩ := I1.list hq
    refine wpAny_pyIter_list p.isList ?_
    refine ⟨s1.heap.objs.size, [s1.heap.objs.size], _, _, H1, rfl, I1.kept (t' := s1.toks) fun b o e => Heap.get?_push_of_some _ e, turn_list a _, ⟨_, Heap.get?_push_size _ rfl, rfl, rfl⟩, fun b hb => ?_, q⟩
    have e : b = s1.heap.objs.size := by simpa using hb
    subst e
    exact I1.fpOk (Nat.le_refl _) (I1.hok.fresh (Nat.le_refl _))
  · obtain ⟨its, rv, p, hz⟩ := I1.tuple hq
    refine wpAny_pyIter_tuple (show s1.heap.IsTuple a its.toArray from p) ?_
    refine ⟨s1.heap.objs.size, [s1.heap.objs.size], _, _, H1, rfl, I1.kept (t' := s1.toks) fun b o e => Heap.get?_push_of_some _ e, turn_tuple a _, ⟨_, Heap.get?_push_size _ rfl, rfl, rfl⟩, fun b hb => ?_, q⟩
    have e : b = s1.heap.objs.size := by simpa using hb
    subst e
    exact I1.fpOk (Nat.le_refl _) (I1.hok.fresh (Nat.le_refl _))
def wholeV (l m : Int) : V → Bool
  | .int i => decide (l ≤ i) && decide (i ≤ m)
  | _ => false
def Scal (x : V) : Prop := x = .non ∨ (∃ i, x = .int i) ∨ ∃ z, x = .str z
theorem lcGen {J : It} {n : Nat} {g : TG} {tt : TT} {te : TE} {vs : List Nat} {σ : L2.St} {H1 : Hp} {D : Addr} {Qd : Hp → Prop} (keep : Nat → Bool) (vals : Nat → V) (nD : H1 D = none) (hn : n ≤ 4000)
    (go : ∀ i H, i < n → Same H1 H → J.go i H) (stop : ∀ H, Same H1 H → J.stop n H)
    (turn : ∀ i x H H' (Qk : VK) (Qn : Hp → Prop), i < n → Same H1 H → J.yld i H x H' → (∀ H4, Same H H4 → keep i = true → Qk (vals i) H4) → (∀ H4, Same H H4 → keep i = false → Qn H4) →
      g x (wipe σ vs) H' fun σ2 H2 => wipe σ2 vs = wipe σ vs ∧ tt σ2 H2 fun b H3 => if b = true then te σ2 H3 Qk else Qn H3)
    (done : ∀ H, Same H1 H → H D = some (.lst (((List.range n).filter keep).map vals)) → Qd H) :
    ∃ W : Nat → Nat → Hp → Prop, (∃ m, W 0 m (upd H1 D (.lst []))) ∧ ∀ i m H, W i m H →
      (J.stop i H ∧ Qd H) ∨ (J.go i H ∧ ∃ Nx : Hp → Prop, (∀ H', Nx H' → ∃ m', m' < m ∧ W (i + 1) m' H') ∧ ∀ x H', J.yld i H x H' → g x (wipe σ vs) H' fun σ2 H2 => wipe σ2 vs = wipe σ vs ∧ tt σ2 H2 fun b H3 =>
        if b = true then te σ2 H3 fun y H4 => ∃ acc, H4 D = some (.lst acc) ∧ acc.length < sizeLine ∧ Nx (upd H4 D (.lst (acc ++ [y]))) else Nx H3) := by
  refine ⟨fun i m H => m = n - i ∧ i ≤ n ∧ Same H1 H ∧ H D = some (.lst (((List.range i).filter keep).map vals)), ⟨n, rfl, Nat.zero_le _, same_upd nD, upd_same⟩, ?_⟩
  rintro i m H ⟨rfl, hi, sm, eD⟩
  by_cases hlt : i < n
  · refine .inr ⟨go i H hlt sm, fun H' => Same H1 H' ∧ H' D = some (.lst (((List.range (i + 1)).filter keep).map vals)), fun H' p => ⟨n - (i + 1), by omega, rfl, hlt, p.1, p.2⟩, fun x H' y => ?_⟩
    refine turn i x H H' _ _ hlt sm y (fun H4 s4 hk => ⟨_, s4 _ _ eD, ?_, ?_, ?_⟩) (fun H4 s4 hk => ⟨sm.trans s4, ?_⟩)
    · rw [List.length_map]
      have h1 := List.length_filter_le keep (List.range i)
      rw [List.length_range] at h1
      rw [sizeLine_eq]
      omega
    · exact fun b o e => by
        rw [upd_ne (ne_of_none e nD)]
        exact s4 _ _ (sm _ _ e)
    · rw [upd_same, List.range_succ, List.filter_append, List.map_append]
      simp [hk]
    · rw [s4 _ _ eD, List.range_succ, List.filter_append, List.map_append]
      simp [hk]
  · have e : i = n := by omega
    subst e
    exact .inl ⟨stop H sm, done H sm eD⟩
theorem lcMap {J : It} {n : Nat} {g : TG} {te : TE} {vs : List Nat} {σ : L2.St} {H1 : Hp} {D : Addr} {Qd : Hp → Prop} (vals : Nat → V) (nD : H1 D = none) (hn : n ≤ 4000)
    (go : ∀ i H, i < n → Same H1 H → J.go i H) (stop : ∀ H, Same H1 H → J.stop n H)
    (turn : ∀ i x H H' (Qk : VK) (Qn : Hp → Prop), i < n → Same H1 H → J.yld i H x H' → (∀ H4, Same H H4 → Qk (vals i) H4) → g x (wipe σ vs) H' fun σ2 H2 => wipe σ2 vs = wipe σ vs ∧ tYes σ2 H2 fun b H3 => if b = true then te σ2 H3 Qk else Qn H3)
    (done : ∀ H, Same H1 H → H D = some (.lst ((List.range n).map vals)) → Qd H) :
    ∃ W : Nat → Nat → Hp → Prop, (∃ m, W 0 m (upd H1 D (.lst []))) ∧ ∀ i m H, W i m H →
      (J.stop i H ∧ Qd H) ∨ (J.go i H ∧ ∃ Nx : Hp → Prop, (∀ H', Nx H' → ∃ m', m' < m ∧ W (i + 1) m' H') ∧ ∀ x H', J.yld i H x H' → g x (wipe σ vs) H' fun σ2 H2 => wipe σ2 vs = wipe σ vs ∧ tYes σ2 H2 fun b H3 =>
        if b = true then te σ2 H3 fun y H4 => ∃ acc, H4 D = some (.lst acc) ∧ acc.length < sizeLine ∧ Nx (upd H4 D (.lst (acc ++ [y]))) else Nx H3) :=
  lcGen (tt := tYes) (fun _ => true) vals nD hn go stop (fun i x H H' Qk Qn h1 h2 h3 h4 _ => turn i x H H' Qk Qn h1 h2 h3 fun H4 s4 => h4 H4 s4 rfl)
    (fun H s e => done H s (by rw [e, List.filter_eq_self.mpr (fun _ _ => rfl)]))
def LcR (J : It) (g : TG) (tt : TT) (te : TE) (vs : List Nat) (σ : L2.St) (H1 : Hp) (Q : VK) : Prop := ∀ D, H1 D = none → ∃ W : Nat → Nat → Hp → Prop, (∃ m, W 0 m (upd H1 D (.lst []))) ∧ ∀ i m H, W i m H →
  (J.stop i H ∧ Q (.ref D) H) ∨ (J.go i H ∧ ∃ Nx : Hp → Prop, (∀ H', Nx H' → ∃ m', m' < m ∧ W (i + 1) m' H') ∧ ∀ x H', J.yld i H x H' → g x (wipe σ vs) H' fun σ2 H2 => wipe σ2 vs = wipe σ vs ∧ tt σ2 H2 fun b H3 =>
    if b = true then te σ2 H3 fun y H4 => ∃ acc, H4 D = some (.lst acc) ∧ acc.length < sizeLine ∧ Nx (upd H4 D (.lst (acc ++ [y]))) else Nx H3)
theorem map_getD {α : Type} (f : V → α) (d : V) : ∀ xs : List V, (List.range xs.length).map (fun i => f (xs.getD i d)) = xs.map f
  | [] => rfl
  | x :: r => by
    rw [List.length_cons, List.range_succ_eq_map, List.map_cons, List.map_map, List.map_cons]
    exact congrArg (f x :: ·) (map_getD f d r)
theorem lcSeq {K : PySem.W.Frag} {a : Addr} {xs : List V} {g : TG} {te : TE} {vs : List Nat} {σ : L2.St} {H1 : Hp} {Q : VK} (vals : V → V) (hq : Sq H1 a xs) (hn : xs.length ≤ 4000)
    (turn : ∀ (i : Nat) (x : V) (H : Hp) (Qk : VK) (Qn : Hp → Prop), xs[i]? = some x → Same H1 H → (∀ H4, Same H H4 → Qk (vals x) H4) → g x (wipe σ vs) H fun σ2 H2 => wipe σ2 vs = wipe σ vs ∧ tYes σ2 H2 fun b H3 => if b = true then te σ2 H3 Qk else Qn H3)
    (done : ∀ D H, H1 D = none → Same H1 H → H D = some (.lst (xs.map vals)) → Q (.ref D) H) :
    (SqL K H1 a xs ∧ LcR (Itl K a) g tYes te vs σ H1 Q) ∨ (SqT K H1 a xs ∧ LcR (Itt K a) g tYes te vs σ H1 Q) := by
  have gd : ∀ {i : Nat} {x : V}, xs[i]? = some x → xs.getD i .non = x := fun {i x} h => by
    rw [List.getD_eq_getElem?_getD, h]
    rfl
  rcases hq with hq | hq
  · refine .inl ⟨sqL hq, fun D nD => lcMap (n := xs.length) (fun i => vals (xs.getD i .non)) nD hn (fun i H h s => ⟨xs, xs[i], sqL (s _ _ hq), List.getElem?_eq_getElem h⟩) (fun H s => ⟨xs, sqL (s _ _ hq), Nat.le_refl _⟩)
      (fun i x H H' Qk Qn h s y hk => ?_) (fun H s e => done D H nD s (by rw [e, map_getD]))⟩
    obtain ⟨rfl, y⟩ := y
    have hx := y xs (sqL (s _ _ hq))
    exact turn i x _ Qk Qn hx s fun H4 s4 => by
      have z := hk H4 s4
      rw [gd hx] at z
      exact z
  · refine .inr ⟨sqT hq, fun D nD => lcMap (n := xs.length) (fun i => vals (xs.getD i .non)) nD hn (fun i H h s => ⟨xs, xs[i], sqT (s _ _ hq), List.getElem?_eq_getElem h⟩) (fun H s => ⟨xs, sqT (s _ _ hq), Nat.le_refl _⟩)
      (fun i x H H' Qk Qn h s y hk => ?_) (fun H s e => done D H nD s (by rw [e, map_getD]))⟩
    obtain ⟨rfl, y⟩ := y
    have hx := y xs (sqT (s _ _ hq))
    exact turn i x _ Qk Qn hx s fun H4 s4 => by
      have z := hk H4 s4
      rw [gd hx] at z
      exact z
theorem PE.imp {X : Cx} {e : Expr} {t t' : TE} (h : PE X e t) (i : ∀ σ H Q, t' σ H Q → t σ H Q) : PE X e t' := ⟨fun pins s σ H Q I q => h.run pins s σ H Q I (i σ H Q q)⟩
theorem PS.imp {X : Cx} {e : Stmt} {t t' : TS} (h : PS X e t) (i : ∀ D σ H, t' D σ H → t D σ H) : PS X e t' := ⟨fun pins s σ H D I q => h.run pins s σ H D I (i D σ H q)⟩
theorem wipe1 (σ : L2.St) (c : Nat) (x : V) : (wipe σ [c]).set c (some x) = σ.set c (some x) := by
  show (σ.set c none).set c (some x) = _
  rw [List.set_set]
theorem wipe2 (σ : L2.St) (c : Nat) (x : V) : wipe (σ.set c (some x)) [c] = wipe σ [c] := by
  show (σ.set c (some x)).set c none = σ.set c none
  rw [List.set_set]
def tMapSeq (j c : Nat) (te : TE) : TE := fun σ H Q => ∃ (a : Addr) (xs : List V) (vals : V → V), σ[j]? = some (some (.ref a)) ∧ Sq H a xs ∧ xs.length ≤ 4000 ∧
  (∀ (i : Nat) (x : V) (H2 : Hp) (Qk : VK), xs[i]? = some x → Same H H2 → (∀ H4, Same H2 H4 → Qk (vals x) H4) → te (σ.set c (some x)) H2 Qk) ∧
  ∀ D H', H D = none → Same H H' → H' D = some (.lst (xs.map vals)) → Q (.ref D) H'
theorem tMapSeq_ok {K : PySem.W.Frag} {j c : Nat} {te : TE} {σ : L2.St} {H : Hp} {Q : VK} (h : tMapSeq j c te σ H Q) : tLc (iSeq K (tVar j)) (gName c) tYes te [c] σ H Q := by
  obtain ⟨a, xs, vals, hj, hq, hn, turn, done⟩ := h
  refine ⟨.ref a, hj, a, xs, rfl, lcSeq (g := gName c) (te := te) (vs := [c]) (σ := σ) (Q := Q) vals hq hn (fun i x H2 Qk Qn hx s hk => ?_) done⟩
  show wipe ((wipe σ [c]).set c (some x)) [c] = wipe σ [c] ∧ (if true = true then te ((wipe σ [c]).set c (some x)) H2 Qk else Qn H2)
  rw [wipe1, wipe2]
  exact ⟨rfl, iteT (turn i x H2 Qk hx s hk)⟩
theorem getD_of {xs : List V} {i : Nat} {x d : V} (h : xs[i]? = some x) : xs.getD i d = x := by
  rw [List.getD_eq_getElem?_getD, h]
  rfl
theorem dpInts {K : PySem.W.Frag} {H : Hp} : ∀ ns : List Int, DpAll K H (ns.map V.int) (ns.map PyData.int)
  | [] => .nil
  | i :: r => .cons (.int i) (dpInts r)
theorem canInts : ∀ ns : List Int, PyData.canLayAll0 (ns.map PyData.int) = true
  | [] => rfl
  | i :: r => by
    show (PyData.canLay0 (.int i) && PyData.canLayAll0 (r.map PyData.int)) = true
    rw [canInts r]
    rfl
theorem depInts : ∀ ns : List Int, PyData.depthAll (ns.map PyData.int) = 0
  | [] => rfl
  | i :: r => by
    show max 0 (PyData.depthAll (r.map PyData.int)) = 0
    rw [depInts r]
    rfl
theorem eqvInts : ∀ xs ys : List Int, PyData.eqvAll (xs.map PyData.int) (ys.map PyData.int) = decide (xs = ys)
  | [], [] => by simp [PyData.eqvAll]
  | [], _ :: _ => by simp [PyData.eqvAll]
  | _ :: _, [] => by simp [PyData.eqvAll]
  | x :: xs, y :: ys => by
    rw [List.map_cons, List.map_cons, PyData.eqvAll, eqvInts xs ys, PyData.eqv]
    by_cases h : x = y
    · subst h
      by_cases h2 : xs = ys <;> simp [h2]
    · simp [h]
theorem cut1 (xs : List V) : cutV xs (some 1) none = xs.tail := by
  unfold cutV
  rw [show (some (1 : Int)) = some ((1 : Nat) : Int) from rfl, HT.sIx_nat]
  show List.take (xs.length - min 1 xs.length) (List.drop (min 1 xs.length) xs) = _
  cases xs with
  | nil => rfl
  | cons x r =>
    rw [show min 1 (x :: r).length = 1 by rw [List.length_cons]; omega]
    show List.take (r.length + 1 - 1) r = r
    rw [List.take_of_length_le (by omega)]
theorem lenApp (a b : Str) : (a ++ b).length = a.length + b.length := Array.size_append
def Rai (E : XK) (C : Addr) (H : Hp) (fs : List (Str × V)) : Prop := ∀ d H', Same H H' → H' d = some (.xd fs) → E (.ref C) (some d) H'
theorem Rai.same {E : XK} {C : Addr} {H H1 : Hp} {fs : List (Str × V)} (h : Rai E C H fs) (s : Same H H1) : Rai E C H1 fs := fun d H' s' e => h d H' (s.trans s') e
theorem xsame {H1 : Hp} {a dx : Addr} {H2 : Hp} {o : HO} (na : H1 a = none) (nd : H1 dx = none) (k : ∀ b, b ≠ a → b ≠ dx → H2 b = H1 b) : Same H1 (upd (del H2 a) dx o) := fun b x e => by
  have h1 := ne_of_none e na
  have h2 := ne_of_none e nd
  rw [upd_ne h2, del_ne h1, k b h1 h2]
  exact e
def ForR (J : It) (g : TG) (tb : TS) (D : Ends) (σ : L2.St) (H : Hp) : Prop := ∃ W : Nat → Nat → L2.St → Hp → Prop, (∃ m, W 0 m σ H) ∧ ∀ i m σ H, W i m σ H →
  (J.stop i H ∧ D.nx σ H) ∨ (J.go i H ∧ ∃ N : L2.St → Hp → Prop, (∀ σ' H', N σ' H' → ∃ m', m' < m ∧ W (i + 1) m' σ' H') ∧ ∀ x H', J.yld i H x H' → g x σ H' fun σ2 H2 => tb { nx := N, rt := D.rt, bk := D.nx, ct := N } σ2 H2)
theorem forGen {J : It} {n : Nat} {g : TG} {tb : TS} {D : Ends} {σ : L2.St} {H : Hp} (Pv : Nat → L2.St → Hp → Prop) (h0 : Pv 0 σ H) (go : ∀ i σ H, i < n → Pv i σ H → J.go i H) (stop : ∀ σ H, Pv n σ H → J.stop n H)
    (turn : ∀ i x σ H H', i < n → Pv i σ H → J.yld i H x H' → g x σ H' fun σ2 H2 => tb { nx := Pv (i + 1), rt := D.rt, bk := D.nx, ct := Pv (i + 1) } σ2 H2) (done : ∀ σ H, Pv n σ H → D.nx σ H) : ForR J g tb D σ H := by
  refine ⟨fun i m σ H => m = n - i ∧ i ≤ n ∧ Pv i σ H, ⟨n, rfl, Nat.zero_le _, h0⟩, ?_⟩
  rintro i m σ H ⟨rfl, hi, p⟩
  by_cases hlt : i < n
  · exact .inr ⟨go i σ H hlt p, Pv (i + 1), fun σ' H' q => ⟨n - (i + 1), by omega, rfl, hlt, q⟩, fun x H' y => turn i x σ H H' hlt p y⟩
  · have e : i = n := by omega
    subst e
    exact .inl ⟨stop σ H p, done σ H p⟩
theorem forEnum {K : PySem.W.Frag} {a : Addr} {xs : List V} {g : TG} {tb : TS} {D : Ends} {σ : L2.St} {H : Hp} (Pv : Nat → L2.St → Hp → Prop) (hq : Sq H a xs) (h0 : Pv 0 σ H) (hl : ∀ i σ H' o, Pv i σ H' → H a = some o → H' a = some o)
    (turn : ∀ i x T σ H, xs[i]? = some x → Pv i σ H → H T = none → g (.ref T) σ (upd H T (.tup [.int (i : Nat), x])) fun σ2 H2 => tb { nx := Pv (i + 1), rt := D.rt, bk := D.nx, ct := Pv (i + 1) } σ2 H2) (done : ∀ σ H, Pv xs.length σ H → D.nx σ H) :
    (SqL K H a xs ∧ ForR (Ite K a) g tb D σ H) ∨ (SqT K H a xs ∧ ForR (IteT K a) g tb D σ H) := by
  rcases hq with hq | hq
  · refine .inl ⟨sqL hq, forGen (n := xs.length) Pv h0 (fun i σ H h p => ⟨xs, xs[i], sqL (hl _ _ _ _ p hq), List.getElem?_eq_getElem h⟩) (fun σ H p => ⟨xs, sqL (hl _ _ _ _ p hq), Nat.le_refl _⟩) (fun i x σ H H' hi p y => ?_) done⟩
    obtain ⟨T, x, rfl, nT, rfl, hx⟩ := y
    exact turn i x T σ H (hx xs (sqL (hl _ _ _ _ p hq))) p nT
  · refine .inr ⟨sqT hq, forGen (n := xs.length) Pv h0 (fun i σ H h p => ⟨xs, xs[i], sqT (hl _ _ _ _ p hq), List.getElem?_eq_getElem h⟩) (fun σ H p => ⟨xs, sqT (hl _ _ _ _ p hq), rfl⟩) (fun i x σ H H' hi p y => ?_) done⟩
    obtain ⟨T, x, rfl, nT, rfl, hx⟩ := y
    exact turn i x T σ H (hx xs (sqT (hl _ _ _ _ p hq))) p nT
theorem paired_get {α β : Type} {F : α → β → Prop} {xs : List α} {ys : List β} (p : Paired F xs ys) : ∀ {i : Nat} {x : α}, xs[i]? = some x → ∃ y, ys[i]? = some y ∧ F x y := by
  induction p with
  | nil => intro i x h; simp at h
  | cons f r ih =>
    intro i x h
    cases i with
    | zero =>
      simp at h
      subst h
      exact ⟨_, rfl, f⟩
    | succ i => exact ih h
theorem paired_imp {α β : Type} {F G : α → β → Prop} (k : ∀ x y, F x y → G x y) : ∀ {xs : List α} {ys : List β}, Paired F xs ys → Paired G xs ys
  | _, _, .nil => .nil
  | _, _, .cons f r => .cons (k _ _ f) (paired_imp k r)
theorem drop_get {α : Type} {xs : List α} {i : Nat} {x : α} (h : xs[i]? = some x) : xs.drop i = x :: xs.drop (i + 1) := by
  obtain ⟨hi, rfl⟩ := List.getElem?_eq_some_iff.mp h
  exact List.drop_eq_getElem_cons hi
theorem take_get {α : Type} {xs : List α} {i : Nat} {x : α} (h : xs[i]? = some x) : xs.take (i + 1) = xs.take i ++ [x] := by
  rw [List.take_succ, h]
  rfl
def nts (ns : List Nat) : List V := ns.map fun (n : Nat) => V.int (n : Int)
theorem nts_len (l : List Nat) : (nts l).length = l.length := List.length_map _
def PairsAt (H : Hp) (ts : List V) (ps : List (Nat × Nat)) : Prop := Paired (fun t (p : Nat × Nat) => ∃ T, t = .ref T ∧ H T = some (.tup [.int (p.1 : Nat), .int (p.2 : Nat)])) ts ps
theorem PairsAt.same {H H' : Hp} {ts : List V} {ps : List (Nat × Nat)} (h : PairsAt H ts ps) (s : Same H H') : PairsAt H' ts ps := paired_imp (fun _ _ ⟨T, e, h⟩ => ⟨T, e, s _ _ h⟩) h
theorem paired_snoc {α β : Type} {F : α → β → Prop} {xs : List α} {ys : List β} {x : α} {y : β} (p : Paired F xs ys) (f : F x y) : Paired F (xs ++ [x]) (ys ++ [y]) := by
  induction p with
  | nil => exact .cons f .nil
  | cons g r ih => exact .cons g ih
def leP (p q : Nat × Nat) : Bool := decide (p.1 < q.1 ∨ (p.1 = q.1 ∧ p.2 ≤ q.2))
def sortP (l : List (Nat × Nat)) : List (Nat × Nat) := l.mergeSort leP
theorem leP_trans (a b c : Nat × Nat) (h1 : leP a b = true) (h2 : leP b c = true) : leP a c = true := by
  unfold leP at *
  rw [decide_eq_true_iff] at *
  omega
theorem leP_total (a b : Nat × Nat) : (leP a b || leP b a) = true := by
  unfold leP
  rw [Bool.or_eq_true, decide_eq_true_iff, decide_eq_true_iff]
  omega
theorem leP_anti {a b : Nat × Nat} (h1 : leP a b = true) (h2 : leP b a = true) : a = b := by
  unfold leP at *
  rw [decide_eq_true_iff] at *
  exact Prod.ext (by omega) (by omega)
theorem sortP_perm (l : List (Nat × Nat)) : (sortP l).Perm l := List.mergeSort_perm l leP
theorem sortP_sorted (l : List (Nat × Nat)) : (sortP l).Pairwise fun a b => leP a b = true := List.pairwise_mergeSort leP_trans leP_total l
theorem sortP_eq {l m : List (Nat × Nat)} (p : m.Perm l) (s : m.Pairwise fun a b => leP a b = true) : m = sortP l :=
  List.Perm.eq_of_pairwise (fun a b _ _ h1 h2 => leP_anti h1 h2) s (sortP_sorted l) (p.trans (sortP_perm l).symm)
def kOf (H : Hp) : V → Int × Int
  | .ref T => match H T with
    | some (.tup [.int i, .int j]) => (i, j)
    | _ => (0, 0)
  | _ => (0, 0)
def kNat (H : Hp) (x : V) : Nat × Nat := ((kOf H x).1.toNat, (kOf H x).2.toNat)
theorem kOf_pair {H : Hp} {T : Addr} {i j : Int} (h : H T = some (.tup [.int i, .int j])) : kOf H (.ref T) = (i, j) := by
  simp only [kOf, h]
theorem pairs_map {H : Hp} {ts : List V} {ps : List (Nat × Nat)} (p : PairsAt H ts ps) : ps = ts.map (kNat H) := by
  induction p with
  | nil => rfl
  | cons f r ih =>
    obtain ⟨T, rfl, h⟩ := f
    rw [List.map_cons, ← ih]
    refine congrArg (· :: _) ?_
    unfold kNat
    rw [kOf_pair h]
    rfl
theorem pairs_mem {H : Hp} {ts : List V} {ps : List (Nat × Nat)} (p : PairsAt H ts ps) : ∀ x ∈ ts, ∃ T, x = .ref T ∧ H T = some (.tup [.int ((kNat H x).1 : Nat), .int ((kNat H x).2 : Nat)]) := by
  induction p with
  | nil => exact fun x h => absurd h (by simp)
  | cons f r ih =>
    intro x hx
    rcases List.mem_cons.mp hx with e | hx
    · obtain ⟨T, e2, h⟩ := f
      subst e2
      subst e
      refine ⟨T, rfl, ?_⟩
      unfold kNat
      rw [kOf_pair h]
      exact h
    · exact ih x hx
theorem paired_self {α β : Type} {F : α → β → Prop} {f : α → β} : ∀ {xs : List α}, (∀ x ∈ xs, F x (f x)) → Paired F xs (xs.map f)
  | [], _ => .nil
  | x :: r, h => .cons (h x List.mem_cons_self) (paired_self fun y hy => h y (List.mem_cons_of_mem _ hy))
theorem sorted_pairs {H : Hp} {xs ys : List V} {ps : List (Nat × Nat)} (p : PairsAt H xs ps) (st : SrtO.Srtd (ltP (kOf H)) ys) (sb : SrtO.Stb (ltP (kOf H)) ys xs) : PairsAt H ys (sortP ps) := by
  have hm := pairs_mem p
  have hy : ∀ y ∈ ys, ∃ T, y = .ref T ∧ H T = some (.tup [.int ((kNat H y).1 : Nat), .int ((kNat H y).2 : Nat)]) := fun y h => hm y (sb.perm.mem_iff.mp h)
  have e : ys.map (kNat H) = sortP ps := by
    refine sortP_eq ?_ ?_
    · rw [pairs_map p]
      exact sb.perm.map _
    · rw [List.pairwise_map]
      refine (List.Pairwise.and_mem.mp st).imp fun h => ?_
      obtain ⟨ha, hb, hlt⟩ := h
      obtain ⟨T, rfl, h1⟩ := hy _ ha
      obtain ⟨U, rfl, h2⟩ := hy _ hb
      have h1 := kOf_pair h1
      have h2 := kOf_pair h2
      unfold ltP SrtO.lexB at hlt
      rw [h1, h2] at hlt
      unfold leP
      rw [decide_eq_true_iff]
      simp at hlt
      split at hlt <;> omega
  rw [← e]
  exact paired_self hy
theorem rIx_sq {K : PySem.W.Frag} {H : Hp} {a : Addr} {xs : List V} {i : Nat} {k : Int} {x : V} {Q : VK} (h : Sq H a xs) (hk : k = (i : Int)) (hx : xs[i]? = some x) (q : Q x H) : rIx K (.ref a) (.int k) H Q := by
  subst hk
  rcases h with h | h
  · exact .inl ⟨a, xs, _, x, rfl, rfl, sqL h, atI_nat hx, q⟩
  · exact .inr (.inl ⟨a, xs, _, x, rfl, rfl, sqT h, atI_nat hx, q⟩)
theorem iteFq {b : Bool} {A B : Prop} (h : b = false) (x : B) : if b = true then A else B := by
  subst h
  exact x
theorem iteTq {b : Bool} {A B : Prop} (h : b = true) (x : A) : if b = true then A else B := by
  subst h
  exact x
theorem forSeq {K : PySem.W.Frag} {a : Addr} {xs : List V} {g : TG} {tb : TS} {D : Ends} {σ : L2.St} {H : Hp} (Pv : Nat → L2.St → Hp → Prop) (hq : Sq H a xs) (h0 : Pv 0 σ H) (hl : ∀ i σ H' o, Pv i σ H' → H a = some o → H' a = some o)
    (turn : ∀ i x σ H, xs[i]? = some x → Pv i σ H → g x σ H fun σ2 H2 => tb { nx := Pv (i + 1), rt := D.rt, bk := D.nx, ct := Pv (i + 1) } σ2 H2) (done : ∀ σ H, Pv xs.length σ H → D.nx σ H) :
    (SqL K H a xs ∧ ForR (Itl K a) g tb D σ H) ∨ (SqT K H a xs ∧ ForR (Itt K a) g tb D σ H) := by
  rcases hq with hq | hq
  · exact .inl ⟨sqL hq, for_list (K := K) (xs := xs) Pv h0 (fun i σ H' _ p => sqL (hl _ _ _ _ p hq)) turn done⟩
  · exact .inr ⟨sqT hq, for_tup (K := K) (xs := xs) Pv h0 (fun i σ H' _ p => sqT (hl _ _ _ _ p hq)) turn done⟩
theorem lenV_sq {K : PySem.W.Frag} {H : Hp} {a : Addr} {xs : List V} {n : Nat} (h : Sq H a xs) (e : xs.length = n) : LenV K (.ref a) H n := h.elim (fun z => .inl ⟨_, sqL z, e.symm⟩) fun z => .inr ⟨_, sqT z, e.symm⟩
theorem none_of_same {H H' : Hp} {l : Addr} (s : Same H H') (n : H' l = none) : H l = none := by
  cases e : H l with
  | none => rfl
  | some o =>
    rw [s _ _ e] at n
    cases n
theorem range_map_get {α : Type} (l : List α) (d : α) : (List.range l.length).map (fun i => l.getD i d) = l := by
  refine List.ext_getElem (by rw [List.length_map, List.length_range]) fun i h1 h2 => ?_
  rw [List.getElem_map, List.getElem_range, List.getD_eq_getElem?_getD, List.getElem?_eq_getElem h2]
  rfl
theorem getD_at {α : Type} {l : List α} {i : Nat} {x d : α} (h : l[i]? = some x) : l.getD i d = x := by
  rw [List.getD_eq_getElem?_getD, h]
  rfl
def TupT (H : Hp) (x : V) (vs : List V) : Prop := ∃ a, x = .ref a ∧ H a = some (.tup vs)
theorem TupT.same {H H' : Hp} {x : V} {vs : List V} (s : Same H H') (h : TupT H x vs) : TupT H' x vs := by
  obtain ⟨a, e, q⟩ := h
  exact ⟨a, e, s _ _ q⟩
def TupsT (H : Hp) (ts : List V) (ls : List (List V)) : Prop := Paired (TupT H) ts ls
theorem TupsT.same {H H' : Hp} {ts : List V} {ls : List (List V)} (s : Same H H') (h : TupsT H ts ls) : TupsT H' ts ls := paired_imp (fun _ _ h => h.same s) h
theorem tups_upd {H : Hp} {D : Addr} {o : HO} {ts us : List V} {l : List (List V)} (eD : H D = some (.lst us)) (p : TupsT H ts l) : TupsT (upd H D o) ts l := paired_imp (fun x c ⟨a, e, h⟩ => ⟨a, e, by rw [upd_ne (fun z => by rw [z, eD] at h; cases h)]; exact h⟩) p
theorem tup_upd {H : Hp} {D : Addr} {o : HO} {x : V} {us c : List V} (eD : H D = some (.lst us)) (p : TupT H x c) : TupT (upd H D o) x c := by
  obtain ⟨a, e, h⟩ := p
  exact ⟨a, e, by rw [upd_ne (fun z => by rw [z, eD] at h; cases h)]; exact h⟩
theorem lcTupK {J : It} {n : Nat} {g : TG} {tt : TT} {te : TE} {vs : List Nat} {σ : L2.St} {H1 : Hp} {D : Addr} {Qd : Hp → Prop} (keep : Nat → Bool) (cs : Nat → List V) (nD : H1 D = none) (hn : n ≤ 4000) (go : ∀ i H, i < n → Same H1 H → J.go i H) (stop : ∀ H, Same H1 H → J.stop n H)
    (turn : ∀ i x H H' (Qk : VK) (Qn : Hp → Prop), i < n → Same H1 H → J.yld i H x H' → (∀ y H4, keep i = true → TupT H4 y (cs i) → Same H H4 → Qk y H4) → (∀ H4, keep i = false → Same H H4 → Qn H4) → g x (wipe σ vs) H' fun σ2 H2 => wipe σ2 vs = wipe σ vs ∧ tt σ2 H2 fun b H3 => if b = true then te σ2 H3 Qk else Qn H3)
    (done : ∀ H ts, Same H1 H → H D = some (.lst ts) → TupsT H ts (((List.range n).filter keep).map cs) → Qd H) :
    ∃ W : Nat → Nat → Hp → Prop, (∃ m, W 0 m (upd H1 D (.lst []))) ∧ ∀ i m H, W i m H →
      (J.stop i H ∧ Qd H) ∨ (J.go i H ∧ ∃ Nx : Hp → Prop, (∀ H', Nx H' → ∃ m', m' < m ∧ W (i + 1) m' H') ∧ ∀ x H', J.yld i H x H' → g x (wipe σ vs) H' fun σ2 H2 => wipe σ2 vs = wipe σ vs ∧ tt σ2 H2 fun b H3 =>
        if b = true then te σ2 H3 fun y H4 => ∃ acc, H4 D = some (.lst acc) ∧ acc.length < sizeLine ∧ Nx (upd H4 D (.lst (acc ++ [y]))) else Nx H3) := by
  refine ⟨fun i m H => m = n - i ∧ i ≤ n ∧ Same H1 H ∧ ∃ ts, H D = some (.lst ts) ∧ TupsT H ts (((List.range i).filter keep).map cs), ⟨n, rfl, Nat.zero_le _, same_upd nD, [], upd_same, .nil⟩, ?_⟩
  rintro i m H ⟨rfl, hi, sm, ts, eD, pt⟩
  by_cases hlt : i < n
  · refine .inr ⟨go i H hlt sm, fun H' => Same H1 H' ∧ ∃ ts, H' D = some (.lst ts) ∧ TupsT H' ts (((List.range (i + 1)).filter keep).map cs), fun H' p => ⟨n - (i + 1), by omega, rfl, hlt, p.1, p.2⟩, fun x H' y => ?_⟩
    refine turn i x H H' _ _ hlt sm y (fun y H4 hk eT s4 => ⟨ts, s4 _ _ eD, ?_, fun b o e => ?_, _, upd_same, ?_⟩) (fun H4 hk s4 => ⟨sm.trans s4, ts, s4 _ _ eD, ?_⟩)
    · have h1 := pt.length
      have h2 := List.length_filter_le keep (List.range i)
      rw [List.length_map] at h1
      rw [List.length_range] at h2
      rw [sizeLine_eq]
      omega
    · rw [upd_ne (ne_of_none e nD)]
      exact s4 _ _ (sm _ _ e)
    · rw [List.range_succ, List.filter_append, List.filter_cons_of_pos hk, List.map_append]
      exact paired_snoc (tups_upd (s4 _ _ eD) (pt.same s4)) (tup_upd (s4 _ _ eD) eT)
    · rw [List.range_succ, List.filter_append, List.filter_cons_of_neg (by rw [hk]; exact Bool.false_ne_true), List.filter_nil, List.append_nil]
      exact pt.same s4
  · have e : i = n := by omega
    subst e
    exact .inl ⟨stop H sm, done H ts sm eD pt⟩
theorem tups_got {H : Hp} {ts : List V} {ls : List (List V)} (p : TupsT H ts ls) {i : Nat} {x : V} (h : ts[i]? = some x) : ∃ vs a, ls[i]? = some vs ∧ x = .ref a ∧ H a = some (.tup vs) := by
  obtain ⟨vs, hv, a, e, ha⟩ := paired_get p h
  exact ⟨vs, a, hv, e, ha⟩
theorem cut_to (xs : List V) (m : Nat) : cutV xs none (some (m : Int)) = xs.take m := by
  unfold cutV
  rw [HT.sIx_nat, show HT.sIx xs.length 0 none = 0 from rfl, Nat.sub_zero, List.drop_zero]
  by_cases h : m ≤ xs.length
  · rw [Nat.min_eq_left h]
  · rw [Nat.min_eq_right (by omega), List.take_of_length_le (Nat.le_refl _), List.take_of_length_le (by omega)]
theorem cut_from (xs : List V) (m : Nat) : cutV xs (some (m : Int)) none = xs.drop m := by
  unfold cutV
  rw [HT.sIx_nat, show HT.sIx xs.length xs.length none = xs.length from rfl]
  by_cases h : m ≤ xs.length
  · rw [Nat.min_eq_left h, List.take_of_length_le (by rw [List.length_drop]; exact Nat.le_refl _)]
  · rw [Nat.min_eq_right (by omega), List.drop_eq_nil_of_le (Nat.le_refl _), List.drop_eq_nil_of_le (show xs.length ≤ m by omega), List.take_nil]
theorem slA {K : PySem.W.Frag} {H : Hp} {a : Addr} {xs : List V} {lo hi : Option Int} {Q : VK} (h : H a = some (.tup xs)) (q : ∀ p H', Same H H' → H' p = some (.tup (cutV xs lo hi)) → Q (.ref p) H') : rSlA K (.ref a) lo hi H Q := by
  refine ⟨a, xs, rfl, sqT h, fun z => q a H (Same.refl _) ?_, fun _ p np => q p _ (same_upd np) upd_same⟩
  rw [h]
  unfold cutV
  rw [z.1, z.2, List.drop_zero, Nat.sub_zero, List.take_of_length_le (Nat.le_refl _)]
theorem catA {K : PySem.W.Frag} {H : Hp} {a b : Addr} {xs ys : List V} {Q : VK} (ha : H a = some (.tup xs)) (hb : H b = some (.tup ys)) (hl : xs.length + ys.length ≤ 1000) (q : ∀ p H', Same H H' → H' p = some (.tup (xs ++ ys)) → Q (.ref p) H') : rCatA K (.ref a) (.ref b) H Q := by
  refine ⟨a, b, xs, ys, rfl, rfl, sqT ha, sqT hb, by rw [sizeLine_eq]; omega, fun z => q b H (Same.refl _) ?_, fun _ z => q a H (Same.refl _) ?_, fun _ _ p np => q p _ (same_upd np) upd_same⟩
  · rw [hb, z, List.nil_append]
  · rw [ha, z, List.append_nil]
theorem paired_take {α β : Type} {F : α → β → Prop} {xs : List α} {ys : List β} (p : Paired F xs ys) : ∀ k, Paired F (xs.take k) (ys.take k) ∧ Paired F (xs.drop k) (ys.drop k) := by
  induction p with
  | nil => intro k; rw [List.take_nil, List.take_nil, List.drop_nil, List.drop_nil]; exact ⟨.nil, .nil⟩
  | cons f r ih =>
    intro k
    cases k with
    | zero => exact ⟨.nil, .cons f r⟩
    | succ k => exact ⟨.cons f (ih k).1, (ih k).2⟩
theorem paired_app {α β : Type} {F : α → β → Prop} {xs xs' : List α} {ys ys' : List β} (p : Paired F xs ys) (q : Paired F xs' ys') : Paired F (xs ++ xs') (ys ++ ys') := by
  induction p with
  | nil => exact q
  | cons f _ ih => exact .cons f ih
theorem lcPred {J : It} {n : Nat} {g : TG} {tt : TT} {te : TE} {vs : List Nat} {σ : L2.St} {H1 : Hp} {D : Addr} {Qd : Hp → Prop} (keep : Nat → Bool) (T : Nat → Hp → V → Prop) (hst : ∀ i H H' x, Same H H' → T i H x → T i H' x) (hup : ∀ i H x us ys, H D = some (.lst us) → T i H x → T i (upd H D (.lst ys)) x)
    (nD : H1 D = none) (hn : n ≤ 4000) (go : ∀ i H, i < n → Same H1 H → J.go i H) (stop : ∀ H, Same H1 H → J.stop n H)
    (turn : ∀ i x H H' (Qk : VK) (Qn : Hp → Prop), i < n → Same H1 H → (∃ us, H D = some (.lst us)) → J.yld i H x H' → (∀ y H4, keep i = true → T i H4 y → Same H H4 → Qk y H4) → (∀ H4, keep i = false → Same H H4 → Qn H4) → g x (wipe σ vs) H' fun σ2 H2 => wipe σ2 vs = wipe σ vs ∧ tt σ2 H2 fun b H3 => if b = true then te σ2 H3 Qk else Qn H3)
    (done : ∀ H ts, Same H1 H → H D = some (.lst ts) → Paired (fun x i => T i H x) ts ((List.range n).filter keep) → Qd H) :
    ∃ W : Nat → Nat → Hp → Prop, (∃ m, W 0 m (upd H1 D (.lst []))) ∧ ∀ i m H, W i m H →
      (J.stop i H ∧ Qd H) ∨ (J.go i H ∧ ∃ Nx : Hp → Prop, (∀ H', Nx H' → ∃ m', m' < m ∧ W (i + 1) m' H') ∧ ∀ x H', J.yld i H x H' → g x (wipe σ vs) H' fun σ2 H2 => wipe σ2 vs = wipe σ vs ∧ tt σ2 H2 fun b H3 =>
        if b = true then te σ2 H3 fun y H4 => ∃ acc, H4 D = some (.lst acc) ∧ acc.length < sizeLine ∧ Nx (upd H4 D (.lst (acc ++ [y]))) else Nx H3) := by
  refine ⟨fun i m H => m = n - i ∧ i ≤ n ∧ Same H1 H ∧ ∃ ts, H D = some (.lst ts) ∧ Paired (fun x i => T i H x) ts ((List.range i).filter keep), ⟨n, rfl, Nat.zero_le _, same_upd nD, [], upd_same, .nil⟩, ?_⟩
  rintro i m H ⟨rfl, hi, sm, ts, eD, pt⟩
  by_cases hlt : i < n
  · refine .inr ⟨go i H hlt sm, fun H' => Same H1 H' ∧ ∃ ts, H' D = some (.lst ts) ∧ Paired (fun x i => T i H' x) ts ((List.range (i + 1)).filter keep), fun H' p => ⟨n - (i + 1), by omega, rfl, hlt, p.1, p.2⟩, fun x H' y => ?_⟩
    refine turn i x H H' _ _ hlt sm ⟨ts, eD⟩ y (fun y H4 hk eT s4 => ⟨ts, s4 _ _ eD, ?_, fun b o e => ?_, _, upd_same, ?_⟩) (fun H4 hk s4 => ⟨sm.trans s4, ts, s4 _ _ eD, ?_⟩)
    · have h1 := pt.length
      have h2 := List.length_filter_le keep (List.range i)
      rw [List.length_range] at h2
      rw [sizeLine_eq]
      omega
    · rw [upd_ne (ne_of_none e nD)]
      exact s4 _ _ (sm _ _ e)
    · rw [List.range_succ, List.filter_append, List.filter_cons_of_pos hk]
      exact paired_snoc (paired_imp (fun x i h => hup i _ x _ _ (s4 _ _ eD) (hst i _ _ x s4 h)) pt) (hup i _ y _ _ (s4 _ _ eD) eT)
    · rw [List.range_succ, List.filter_append, List.filter_cons_of_neg (by rw [hk]; exact Bool.false_ne_true), List.filter_nil, List.append_nil]
      exact paired_imp (fun x i h => hst i _ _ x s4 h) pt
  · have e : i = n := by omega
    subst e
    exact .inl ⟨stop H sm, done H ts sm eD pt⟩
theorem paired_map {α β γ : Type} {F : α → γ → Prop} {g : β → γ} {xs : List α} {ys : List β} (p : Paired (fun x y => F x (g y)) xs ys) : Paired F xs (ys.map g) := by
  induction p with
  | nil => exact .nil
  | cons f _ ih => exact .cons f ih
theorem nts_snoc (l : List Nat) {x : Int} (h : 0 ≤ x) : nts l ++ [.int x] = nts (l ++ [x.toNat]) := by
  unfold nts
  rw [List.map_append, List.map_singleton, Int.toNat_of_nonneg h]
theorem fmod_nn {a b : Int} (ha : 0 ≤ a) (hb : 0 < b) : 0 ≤ a.fmod b ∧ a.fmod b < b := ⟨Int.fmod_nonneg_of_pos a hb, Int.fmod_lt_of_pos a hb⟩
theorem fdiv_nn {a b : Int} (ha : 0 ≤ a) (hb : 0 < b) : 0 ≤ a.fdiv b ∧ a.fdiv b ≤ a := by
  rw [Int.fdiv_eq_ediv_of_nonneg a (by omega)]
  exact ⟨Int.ediv_nonneg ha (by omega), Int.ediv_le_self b ha⟩
def NumsAt (H : Hp) (a : Addr) : Prop := ∃ l : List Nat, H a = some (.lst (nts l)) ∧ l.length ≤ 4000
def SameB (a : Addr) (H H' : Hp) : Prop := ∀ b o, b ≠ a → H b = some o → H' b = some o
theorem SameB.trans {a : Addr} {H1 H2 H3 : Hp} (h : SameB a H1 H2) (k : SameB a H2 H3) : SameB a H1 H3 := fun b o n e => k b o n (h b o n e)
theorem SameB.refl {a : Addr} {H : Hp} : SameB a H H := fun _ _ _ e => e
theorem sameB_of {a : Addr} {H1 H2 : Hp} (h : Same H1 H2) : SameB a H1 H2 := fun b o _ e => h b o e
theorem NumsAt.same {H H' : Hp} {a : Addr} (h : NumsAt H a) (s : Same H H') : NumsAt H' a := by
  obtain ⟨l, e, n⟩ := h
  exact ⟨l, s _ _ e, n⟩
theorem nums_ne {H : Hp} {a l : Addr} (n : NumsAt H a) (h : H l = none) : l ≠ a := fun z => by
  obtain ⟨x, e, _⟩ := n
  rw [z, e] at h
  cases h
theorem none_of_b {a l : Addr} {H H' : Hp} (s : SameB a H H') (n : NumsAt H' a) (h : H' l = none) : H l = none := by
  cases e : H l with
  | none => rfl
  | some o =>
    rw [s _ _ (nums_ne n h) e] at h
    cases h
theorem nums_upd {H : Hp} {a F : Addr} {o : HO} (n : NumsAt H a) (h : F ≠ a) : NumsAt (upd H F o) a := by
  obtain ⟨l, e, n⟩ := n
  exact ⟨l, by rw [upd_ne h.symm]; exact e, n⟩
theorem pick {K : PySem.W.Frag} {H : Hp} {L : Addr} {ms : List Nat} {r : Nat} {Q : VK} (e : H L = some (.lst (nts ms))) (hr : r < ms.length) (q : ∀ v, v ∈ ms → Q (.int (v : Nat)) H) : rIxL K (.ref L) (.int (r : Nat)) H Q := by
  refine ⟨L, _, r, .int (ms[r] : Nat), rfl, rfl, sqL e, atI_nat ?_, q _ (List.getElem_mem hr)⟩
  unfold nts
  rw [List.getElem?_map, List.getElem?_eq_getElem hr]
  rfl
def rTupOf (K : PySem.W.Frag) : List V → Hp → VK → Prop := fun xs H Q => ∃ p ys, xs = [.ref p] ∧ ((SqL K H p ys ∧ ∀ l, H l = none → Q (.ref l) (upd H l (.tup ys))) ∨ (SqT K H p ys ∧ Q (.ref p) H))
def rListOf (K : PySem.W.Frag) : List V → Hp → VK → Prop := fun xs H Q => ∃ p ys, xs = [.ref p] ∧ (SqL K H p ys ∨ SqT K H p ys) ∧ ∀ l, H l = none → Q (.ref l) (upd H l (.lst ys))
theorem tupOf {K : PySem.W.Frag} {H : Hp} {a : Addr} {xs : List V} {Q : VK} (h : Sq H a xs) (q : ∀ p H', Same H H' → H' p = some (.tup xs) → Q (.ref p) H') : rTupOf K [.ref a] H Q := by
  rcases h with h | h
  · exact ⟨a, xs, rfl, .inl ⟨sqL h, fun l nl => q l _ (same_upd nl) upd_same⟩⟩
  · exact ⟨a, xs, rfl, .inr ⟨sqT h, q a H (Same.refl _) h⟩⟩
theorem listOf {K : PySem.W.Frag} {H : Hp} {a : Addr} {xs : List V} {Q : VK} (h : Sq H a xs) (q : ∀ p H', Same H H' → H p = none → H' p = some (.lst xs) → Q (.ref p) H') : rListOf K [.ref a] H Q :=
  ⟨a, xs, rfl, h.elim (fun z => .inl (sqL z)) (fun z => .inr (sqT z)), fun l nl => q l _ (same_upd nl) nl upd_same⟩
/-- as LcR, what follows told of the new list's address: it is found by unification -/
def LcD (J : It) (g : TG) (tt : TT) (te : TE) (vs : List Nat) (σ : L2.St) (H1 : Hp) (Q : Addr → Hp → Prop) : Prop := ∀ D, H1 D = none → ∃ W : Nat → Nat → Hp → Prop, (∃ m, W 0 m (upd H1 D (.lst []))) ∧ ∀ i m H, W i m H →
  (J.stop i H ∧ Q D H) ∨ (J.go i H ∧ ∃ Nx : Hp → Prop, (∀ H', Nx H' → ∃ m', m' < m ∧ W (i + 1) m' H') ∧ ∀ x H', J.yld i H x H' → g x (wipe σ vs) H' fun σ2 H2 => wipe σ2 vs = wipe σ vs ∧ tt σ2 H2 fun b H3 =>
    if b = true then te σ2 H3 fun y H4 => ∃ acc, H4 D = some (.lst acc) ∧ acc.length < sizeLine ∧ Nx (upd H4 D (.lst (acc ++ [y]))) else Nx H3)
/-- [e for x in xs], xs a list; what is made is told by a predicate -/
theorem lcLst {K : PySem.W.Frag} {a : Addr} {xs : List V} {g : TG} {te : TE} {vs : List Nat} {σ : L2.St} {H1 : Hp} {Q : Addr → Hp → Prop} (T : Nat → Hp → V → Prop) (hst : ∀ i H H' x, Same H H' → T i H x → T i H' x)
    (hup : ∀ D i H x us ys, H D = some (.lst us) → H1 D = none → T i H x → T i (upd H D (.lst ys)) x) (hq : H1 a = some (.lst xs)) (hn : xs.length ≤ 4000)
    (turn : ∀ (D : Addr) (i : Nat) (x : V) (H : Hp) (Qk : VK) (Qn : Hp → Prop), xs[i]? = some x → Same H1 H → H1 D = none → (∃ us, H D = some (.lst us)) → (∀ y H4, T i H4 y → Same H H4 → Qk y H4) → g x (wipe σ vs) H fun σ2 H2 => wipe σ2 vs = wipe σ vs ∧ tYes σ2 H2 fun b H3 => if b = true then te σ2 H3 Qk else Qn H3)
    (done : ∀ D H ts, H1 D = none → Same H1 H → H D = some (.lst ts) → Paired (fun x i => T i H x) ts (List.range xs.length) → Q D H) : LcD (Itl K a) g tYes te vs σ H1 Q := by
  have ef : ∀ n : Nat, (List.range n).filter (fun _ => true) = List.range n := fun n => List.filter_eq_self.mpr (fun _ _ => rfl)
  refine fun D nD => lcPred (n := xs.length) (tt := tYes) (fun _ => true) T hst (fun i H x us ys e h => hup D i H x us ys e nD h) nD hn (fun i H h s => ⟨xs, xs[i], sqL (s _ _ hq), List.getElem?_eq_getElem h⟩) (fun H s => ⟨xs, sqL (s _ _ hq), Nat.le_refl _⟩)
      (fun i x H H' Qk Qn h s eD y hk _ => ?_) (fun H ts s e p => done D H ts nD s e (by rw [ef] at p; exact p))
  obtain ⟨rfl, y⟩ := y
  exact turn D i x _ Qk Qn (y xs (sqL (s _ _ hq))) s nD eD fun y H4 h4 s4 => hk y H4 rfl h4 s4
/-- .. a tuple -/
theorem lcTup {K : PySem.W.Frag} {a : Addr} {xs : List V} {g : TG} {te : TE} {vs : List Nat} {σ : L2.St} {H1 : Hp} {Q : Addr → Hp → Prop} (T : Nat → Hp → V → Prop) (hst : ∀ i H H' x, Same H H' → T i H x → T i H' x)
    (hup : ∀ D i H x us ys, H D = some (.lst us) → H1 D = none → T i H x → T i (upd H D (.lst ys)) x) (hq : H1 a = some (.tup xs)) (hn : xs.length ≤ 4000)
    (turn : ∀ (D : Addr) (i : Nat) (x : V) (H : Hp) (Qk : VK) (Qn : Hp → Prop), xs[i]? = some x → Same H1 H → H1 D = none → (∃ us, H D = some (.lst us)) → (∀ y H4, T i H4 y → Same H H4 → Qk y H4) → g x (wipe σ vs) H fun σ2 H2 => wipe σ2 vs = wipe σ vs ∧ tYes σ2 H2 fun b H3 => if b = true then te σ2 H3 Qk else Qn H3)
    (done : ∀ D H ts, H1 D = none → Same H1 H → H D = some (.lst ts) → Paired (fun x i => T i H x) ts (List.range xs.length) → Q D H) : LcD (Itt K a) g tYes te vs σ H1 Q := by
  have ef : ∀ n : Nat, (List.range n).filter (fun _ => true) = List.range n := fun n => List.filter_eq_self.mpr (fun _ _ => rfl)
  refine fun D nD => lcPred (n := xs.length) (tt := tYes) (fun _ => true) T hst (fun i H x us ys e h => hup D i H x us ys e nD h) nD hn (fun i H h s => ⟨xs, xs[i], sqT (s _ _ hq), List.getElem?_eq_getElem h⟩) (fun H s => ⟨xs, sqT (s _ _ hq), Nat.le_refl _⟩)
      (fun i x H H' Qk Qn h s eD y hk _ => ?_) (fun H ts s e p => done D H ts nD s e (by rw [ef] at p; exact p))
  obtain ⟨rfl, y⟩ := y
  exact turn D i x _ Qk Qn (y xs (sqT (s _ _ hq))) s nD eD fun y H4 h4 s4 => hk y H4 rfl h4 s4
/-- .. a list or a tuple -/
theorem lcSeqP {K : PySem.W.Frag} {a : Addr} {xs : List V} {g : TG} {te : TE} {vs : List Nat} {σ : L2.St} {H1 : Hp} {Q : Addr → Hp → Prop} (T : Nat → Hp → V → Prop) (hst : ∀ i H H' x, Same H H' → T i H x → T i H' x)
    (hup : ∀ D i H x us ys, H D = some (.lst us) → H1 D = none → T i H x → T i (upd H D (.lst ys)) x) (hq : Sq H1 a xs) (hn : xs.length ≤ 4000)
    (turn : ∀ (D : Addr) (i : Nat) (x : V) (H : Hp) (Qk : VK) (Qn : Hp → Prop), xs[i]? = some x → Same H1 H → H1 D = none → (∃ us, H D = some (.lst us)) → (∀ y H4, T i H4 y → Same H H4 → Qk y H4) → g x (wipe σ vs) H fun σ2 H2 => wipe σ2 vs = wipe σ vs ∧ tYes σ2 H2 fun b H3 => if b = true then te σ2 H3 Qk else Qn H3)
    (done : ∀ D H ts, H1 D = none → Same H1 H → H D = some (.lst ts) → Paired (fun x i => T i H x) ts (List.range xs.length) → Q D H) :
    (SqL K H1 a xs ∧ LcD (Itl K a) g tYes te vs σ H1 Q) ∨ (SqT K H1 a xs ∧ LcD (Itt K a) g tYes te vs σ H1 Q) :=
  hq.elim (fun hq => .inl ⟨sqL hq, lcLst T hst hup hq hn turn done⟩) fun hq => .inr ⟨sqT hq, lcTup T hst hup hq hn turn done⟩
/-- [e for i in range(n)]; what is made is told by a predicate -/
theorem lcRngP {n : Nat} {g : TG} {te : TE} {vs : List Nat} {σ : L2.St} {H1 : Hp} {Q : Addr → Hp → Prop} (T : Nat → Hp → V → Prop) (hst : ∀ i H H' x, Same H H' → T i H x → T i H' x)
    (hup : ∀ D i H x us ys, H D = some (.lst us) → H1 D = none → T i H x → T i (upd H D (.lst ys)) x) (hn : n ≤ 4000)
    (turn : ∀ (D : Addr) (i : Nat) (H : Hp) (Qk : VK) (Qn : Hp → Prop), i < n → Same H1 H → H1 D = none → (∃ us, H D = some (.lst us)) → (∀ y H4, T i H4 y → Same H H4 → Qk y H4) → g (.int (i : Nat)) (wipe σ vs) H fun σ2 H2 => wipe σ2 vs = wipe σ vs ∧ tYes σ2 H2 fun b H3 => if b = true then te σ2 H3 Qk else Qn H3)
    (done : ∀ D H ts, H1 D = none → Same H1 H → H D = some (.lst ts) → Paired (fun x i => T i H x) ts (List.range n) → Q D H) : LcD (Itr 0 n) g tYes te vs σ H1 Q := by
  have ef : ∀ n : Nat, (List.range n).filter (fun _ => true) = List.range n := fun n => List.filter_eq_self.mpr (fun _ _ => rfl)
  refine fun D nD => lcPred (n := n) (tt := tYes) (fun _ => true) T hst (fun i H x us ys e h => hup D i H x us ys e nD h) nD hn (fun i H h s => h) (fun H s => Nat.le_refl _)
      (fun i x H H' Qk Qn h s eD y hk _ => ?_) (fun H ts s e p => done D H ts nD s e (by rw [ef] at p; exact p))
  obtain ⟨rfl, rfl⟩ := y
  rw [Int.zero_add]
  exact turn D i _ Qk Qn h s nD eD fun y H4 h4 s4 => hk y H4 rfl h4 s4
theorem paired_eq {α β : Type} {g : β → α} {xs : List α} {ys : List β} (p : Paired (fun x y => x = g y) xs ys) : xs = ys.map g := by
  induction p with
  | nil => rfl
  | cons f _ ih => rw [List.map_cons, f, ih]
theorem map_range_get {α : Type} {f : Nat → α} {xs : List α} (h : ∀ i x, xs[i]? = some x → f i = x) : (List.range xs.length).map f = xs := by
  refine List.ext_getElem? fun i => ?_
  rw [List.getElem?_map]
  by_cases hi : i < xs.length
  · rw [List.getElem?_eq_getElem (by rw [List.length_range]; exact hi), List.getElem_range, List.getElem?_eq_getElem hi]
    exact congrArg some (h i _ (List.getElem?_eq_getElem hi))
  · rw [List.getElem?_eq_none (by rw [List.length_range]; omega), List.getElem?_eq_none (by omega)]
    rfl
theorem atI_end (xs : List V) (v : V) : atI (xs ++ [v]) (-1) = some v := by
  unfold atI ixN
  rw [if_neg (by omega), if_pos (by rw [List.length_append, List.length_singleton]; omega)]
  show (xs ++ [v])[((-1 : Int) + ((xs ++ [v]).length : Int)).toNat]? = some v
  rw [List.length_append, List.length_singleton, show ((-1 : Int) + ((xs.length + 1 : Nat) : Int)).toNat = xs.length by omega, List.getElem?_append_right (Nat.le_refl _), Nat.sub_self]
  rfl
/-- [e for i, x in enumerate(xs)], xs a tuple -/
theorem lcEnT {K : PySem.W.Frag} {a : Addr} {xs : List V} {g : TG} {te : TE} {vs : List Nat} {σ : L2.St} {H1 : Hp} {Q : Addr → Hp → Prop} (T : Nat → Hp → V → Prop) (hst : ∀ i H H' x, Same H H' → T i H x → T i H' x)
    (hup : ∀ D i H x us ys, H D = some (.lst us) → H1 D = none → T i H x → T i (upd H D (.lst ys)) x) (hq : H1 a = some (.tup xs)) (hn : xs.length ≤ 4000)
    (turn : ∀ (D : Addr) (i : Nat) (x : V) (U : Addr) (H : Hp) (Qk : VK) (Qn : Hp → Prop), xs[i]? = some x → Same H1 H → H1 D = none → (∃ us, H D = some (.lst us)) → H U = none → (∀ y H4, T i H4 y → Same H H4 → Qk y H4) → g (.ref U) (wipe σ vs) (upd H U (.tup [.int (i : Nat), x])) fun σ2 H2 => wipe σ2 vs = wipe σ vs ∧ tYes σ2 H2 fun b H3 => if b = true then te σ2 H3 Qk else Qn H3)
    (done : ∀ D H ts, H1 D = none → Same H1 H → H D = some (.lst ts) → Paired (fun x i => T i H x) ts (List.range xs.length) → Q D H) : LcD (IteT K a) g tYes te vs σ H1 Q := by
  have ef : ∀ n : Nat, (List.range n).filter (fun _ => true) = List.range n := fun n => List.filter_eq_self.mpr (fun _ _ => rfl)
  refine fun D nD => lcPred (n := xs.length) (tt := tYes) (fun _ => true) T hst (fun i H x us ys e h => hup D i H x us ys e nD h) nD hn (fun i H h s => ⟨xs, xs[i], sqT (s _ _ hq), List.getElem?_eq_getElem h⟩) (fun H s => ⟨xs, sqT (s _ _ hq), rfl⟩)
      (fun i x H H' Qk Qn h s eD y hk _ => ?_) (fun H ts s e p => done D H ts nD s e (by rw [ef] at p; exact p))
  obtain ⟨U, x, rfl, nU, rfl, hx⟩ := y
  exact turn D i x U _ Qk Qn (hx xs (sqT (s _ _ hq))) s nD eD nU fun y H4 h4 s4 => hk y H4 rfl h4 s4
/-- for x in xs, xs a tuple -/
theorem forTt {K : PySem.W.Frag} {a : Addr} {xs : List V} {g : TG} {tb : TS} {D : Ends} {σ : L2.St} {H : Hp} (Pv : Nat → L2.St → Hp → Prop) (hq : H a = some (.tup xs)) (h0 : Pv 0 σ H) (hl : ∀ i σ H' o, Pv i σ H' → H a = some o → H' a = some o)
    (turn : ∀ i x σ H, xs[i]? = some x → Pv i σ H → g x σ H fun σ2 H2 => tb { nx := Pv (i + 1), rt := D.rt, bk := D.nx, ct := Pv (i + 1) } σ2 H2) (done : ∀ σ H, Pv xs.length σ H → D.nx σ H) : ForR (Itt K a) g tb D σ H :=
  forGen (n := xs.length) Pv h0 (fun i σ H h p => ⟨xs, xs[i], sqT (hl _ _ _ _ p hq), List.getElem?_eq_getElem h⟩) (fun σ H p => ⟨xs, sqT (hl _ _ _ _ p hq), Nat.le_refl _⟩) (fun i x σ H H' hi p y => by
    obtain ⟨rfl, y⟩ := y
    exact turn i x σ _ (y xs (sqT (hl _ _ _ _ p hq))) p) done
/-- for x in xs, xs a list that the body does not change -/
theorem forLs {K : PySem.W.Frag} {a : Addr} {xs : List V} {g : TG} {tb : TS} {D : Ends} {σ : L2.St} {H : Hp} (Pv : Nat → L2.St → Hp → Prop) (hq : H a = some (.lst xs)) (h0 : Pv 0 σ H) (hl : ∀ i σ H', Pv i σ H' → H' a = some (.lst xs))
    (turn : ∀ i x σ H, xs[i]? = some x → Pv i σ H → g x σ H fun σ2 H2 => tb { nx := Pv (i + 1), rt := D.rt, bk := D.nx, ct := Pv (i + 1) } σ2 H2) (done : ∀ σ H, Pv xs.length σ H → D.nx σ H) : ForR (Itl K a) g tb D σ H :=
  forGen (n := xs.length) Pv h0 (fun i σ H h p => ⟨xs, xs[i], sqL (hl _ _ _ p), List.getElem?_eq_getElem h⟩) (fun σ H p => ⟨xs, sqL (hl _ _ _ p), Nat.le_refl _⟩) (fun i x σ H H' hi p y => by
    obtain ⟨rfl, y⟩ := y
    exact turn i x σ _ (y xs (sqL (hl _ _ _ p))) p) done
/-- for i in range(n) -/
theorem forRg {n : Nat} {g : TG} {tb : TS} {D : Ends} {σ : L2.St} {H : Hp} (Pv : Nat → L2.St → Hp → Prop) (h0 : Pv 0 σ H)
    (turn : ∀ i σ H, i < n → Pv i σ H → g (.int (i : Nat)) σ H fun σ2 H2 => tb { nx := Pv (i + 1), rt := D.rt, bk := D.nx, ct := Pv (i + 1) } σ2 H2) (done : ∀ σ H, Pv n σ H → D.nx σ H) : ForR (Itr 0 n) g tb D σ H :=
  forGen (n := n) Pv h0 (fun i σ H h p => h) (fun σ H p => Nat.le_refl _) (fun i x σ H H' hi p y => by
    obtain ⟨rfl, rfl⟩ := y
    rw [Int.zero_add]
    exact turn i σ _ hi p) done
theorem atI_lastN {l : List Nat} {y : Nat} (h : l.getLast? = some y) : atI (nts l) (-1) = some (.int (y : Nat)) := by
  obtain ⟨pre, rfl⟩ : ∃ pre, l = pre ++ [y] := List.getLast?_eq_some_iff.mp h
  have e : nts (pre ++ [y]) = nts pre ++ [V.int (y : Nat)] := by unfold nts; rw [List.map_append]; rfl
  rw [e]
  exact atI_end _ _
/-! ### whole numbers from 0 on -/
def rAddN : R2 := fun x y H Q => ∃ m n : Nat, x = .int (m : Nat) ∧ y = .int (n : Nat) ∧ Q (.int ((m + n : Nat) : Int)) H
def rSubN : R2 := fun x y H Q => ∃ m n : Nat, x = .int (m : Nat) ∧ y = .int (n : Nat) ∧ n ≤ m ∧ Q (.int ((m - n : Nat) : Int)) H
def rMultN : R2 := fun x y H Q => ∃ m n : Nat, x = .int (m : Nat) ∧ y = .int (n : Nat) ∧ m < 1000000000000000000 ∧ Q (.int ((m * n : Nat) : Int)) H
def rFloorDivN : R2 := fun x y H Q => ∃ m n : Nat, x = .int (m : Nat) ∧ y = .int (n : Nat) ∧ 1 ≤ n ∧ n < 1073741824 ∧ Q (.int ((m / n : Nat) : Int)) H
def rModN : R2 := fun x y H Q => ∃ m n : Nat, x = .int (m : Nat) ∧ y = .int (n : Nat) ∧ 1 ≤ n ∧ Q (.int ((m % n : Nat) : Int)) H
theorem fmod_nat (m n : Nat) : Int.fmod (m : Int) (n : Int) = ((m % n : Nat) : Int) := by
  rw [Int.fmod_eq_emod_of_nonneg _ (by omega)]
  rfl
theorem fdiv_nat (m n : Nat) : Int.fdiv (m : Int) (n : Int) = ((m / n : Nat) : Int) := by
  rw [Int.fdiv_eq_ediv_of_nonneg _ (by omega)]
  rfl
section
variable {X : Cx}
theorem op_AddN : OpR X (binaryOp .Add) rAddN := by
  intro pins s σ H x y v u Q I rx ry h
  obtain ⟨m, n, hx, hy, q⟩ := h
  exact op_add pins s σ H x y v u Q I rx ry ⟨m, n, hx, hy, by rw [Int.natCast_add] at q; exact q⟩
theorem op_SubN : OpR X (binaryOp .Sub) rSubN := by
  intro pins s σ H x y v u Q I rx ry h
  obtain ⟨m, n, hx, hy, hl, q⟩ := h
  exact op_sub pins s σ H x y v u Q I rx ry ⟨m, n, hx, hy, by rw [Int.natCast_sub hl] at q; exact q⟩
theorem op_MultN : OpR X (binaryOp .Mult) rMultN := by
  intro pins s σ H x y v u Q I rx ry h
  obtain ⟨m, n, hx, hy, hl, q⟩ := h
  exact op_mul pins s σ H x y v u Q I rx ry ⟨m, n, hx, hy, .inl ⟨by omega, by omega⟩, by rw [Int.natCast_mul] at q; exact q⟩
theorem op_FloorDivN : OpR X (binaryOp .FloorDiv) rFloorDivN := by
  intro pins s σ H x y v u Q I rx ry h
  obtain ⟨m, n, hx, hy, h1, h2, q⟩ := h
  exact op_fdivN pins s σ H x y v u Q I rx ry ⟨m, n, hx, hy, ⟨by omega, by omega⟩, by rw [← fdiv_nat] at q; exact q⟩
theorem op_ModN : OpR X (binaryOp .Mod) rModN := by
  intro pins s σ H x y v u Q I rx ry h
  obtain ⟨m, n, hx, hy, h1, q⟩ := h
  exact op_modN pins s σ H x y v u Q I rx ry ⟨m, n, hx, hy, (show ((n : Nat) : Int) ≠ 0 by omega), by rw [← fmod_nat] at q; exact q⟩
end
def rMax2N : List V → Hp → VK → Prop := fun xs H Q => ∃ m n : Nat, xs = [.int (m : Nat), .int (n : Nat)] ∧ Q (.int ((max m n : Nat) : Int)) H
def rMin2N : List V → Hp → VK → Prop := fun xs H Q => ∃ m n : Nat, xs = [.int (m : Nat), .int (n : Nat)] ∧ Q (.int ((min m n : Nat) : Int)) H
section
variable {X : Cx}
theorem call_max2N (hc : X.calm = true) : CallR X (.builtin "max") rMax2N := by
  intro pins s σ H vs us Q I r h
  obtain ⟨m, n, hx, q⟩ := h
  refine call_max2 hc pins s σ H vs us Q I r ⟨m, n, hx, ?_⟩
  have e : (if ((n : Nat) : Int) > ((m : Nat) : Int) then ((n : Nat) : Int) else ((m : Nat) : Int)) = ((max m n : Nat) : Int) := by split <;> omega
  rw [e]
  exact q
theorem call_min2N (hc : X.calm = true) : CallR X (.builtin "min") rMin2N := by
  intro pins s σ H vs us Q I r h
  obtain ⟨m, n, hx, q⟩ := h
  refine call_min2 hc pins s σ H vs us Q I r ⟨m, n, hx, ?_⟩
  have e : (if ((n : Nat) : Int) < ((m : Nat) : Int) then ((n : Nat) : Int) else ((m : Nat) : Int)) = ((min m n : Nat) : Int) := by split <;> omega
  rw [e]
  exact q
end
theorem tupsB {a : Addr} {H H' : Hp} {ts : List V} {ls : List (List V)} (n : NumsAt H a) (s : SameB a H H') (p : TupsT H ts ls) : TupsT H' ts ls := by
  obtain ⟨ns, e, _⟩ := n
  exact paired_imp (fun x c ⟨b, e1, h⟩ => ⟨b, e1, s _ _ (fun z => by rw [z, e] at h; cases h) h⟩) p
theorem pickI {K : PySem.W.Frag} {H : Hp} {L : Addr} {ms : List Int} {r : Nat} {Q : VK} (e : H L = some (.lst (ms.map V.int))) (hr : r < ms.length) (q : ∀ v, v ∈ ms → Q (.int v) H) : rIxL K (.ref L) (.int (r : Nat)) H Q := by
  refine ⟨L, _, r, .int ms[r], rfl, rfl, sqL e, atI_nat ?_, q _ (List.getElem_mem hr)⟩
  rw [List.getElem?_map, List.getElem?_eq_getElem hr]
  rfl
theorem paired_set {α β : Type} {F : α → β → Prop} {xs : List α} {ys : List β} (p : Paired F xs ys) : ∀ (i : Nat) {x : α} {y : β}, F x y → Paired F (xs.set i x) (ys.set i y) := by
  induction p with
  | nil => intro i x y h; exact .nil
  | cons f r ih =>
    intro i x y h
    cases i with
    | zero => exact .cons h r
    | succ i => exact .cons f (ih i h)
theorem ixN_nat {n i : Nat} (h : i < n) : ixN n ((i : Nat) : Int) = some i := by
  unfold ixN
  rw [if_pos (by omega), if_pos (by omega)]
  rfl
/-- for i in range(lo, lo + n) -/
theorem forRgL {lo n : Nat} {g : TG} {tb : TS} {D : Ends} {σ : L2.St} {H : Hp} (Pv : Nat → L2.St → Hp → Prop) (h0 : Pv 0 σ H)
    (turn : ∀ i σ H, i < n → Pv i σ H → g (.int ((lo + i : Nat) : Int)) σ H fun σ2 H2 => tb { nx := Pv (i + 1), rt := D.rt, bk := D.nx, ct := Pv (i + 1) } σ2 H2) (done : ∀ σ H, Pv n σ H → D.nx σ H) : ForR (Itr ((lo : Nat) : Int) n) g tb D σ H :=
  forGen (n := n) Pv h0 (fun i σ H h p => h) (fun σ H p => Nat.le_refl _) (fun i x σ H H' hi p y => by
    obtain ⟨rfl, rfl⟩ := y
    rw [← Int.natCast_add]
    exact turn i σ _ hi p) done
/-- [e for x in xs], xs a tuple; what is made is told by a predicate that speaks of the new list's address, too -/
theorem lcTupD {K : PySem.W.Frag} {a : Addr} {xs : List V} {g : TG} {te : TE} {vs : List Nat} {σ : L2.St} {H1 : Hp} {Q : Addr → Hp → Prop} (T : Addr → Nat → Hp → V → Prop) (hst : ∀ D i H H' x, Same H H' → T D i H x → T D i H' x)
    (hup : ∀ D i H x us ys, H D = some (.lst us) → H1 D = none → T D i H x → T D i (upd H D (.lst ys)) x) (hq : H1 a = some (.tup xs)) (hn : xs.length ≤ 4000)
    (turn : ∀ (D : Addr) (i : Nat) (x : V) (H : Hp) (Qk : VK) (Qn : Hp → Prop), xs[i]? = some x → Same H1 H → H1 D = none → (∃ us, H D = some (.lst us)) → (∀ y H4, T D i H4 y → Same H H4 → Qk y H4) → g x (wipe σ vs) H fun σ2 H2 => wipe σ2 vs = wipe σ vs ∧ tYes σ2 H2 fun b H3 => if b = true then te σ2 H3 Qk else Qn H3)
    (done : ∀ D H ts, H1 D = none → Same H1 H → H D = some (.lst ts) → Paired (fun x i => T D i H x) ts (List.range xs.length) → Q D H) : LcD (Itt K a) g tYes te vs σ H1 Q := by
  have ef : ∀ n : Nat, (List.range n).filter (fun _ => true) = List.range n := fun n => List.filter_eq_self.mpr (fun _ _ => rfl)
  refine fun D nD => lcPred (n := xs.length) (tt := tYes) (fun _ => true) (T D) (hst D) (fun i H x us ys e h => hup D i H x us ys e nD h) nD hn (fun i H h s => ⟨xs, xs[i], sqT (s _ _ hq), List.getElem?_eq_getElem h⟩) (fun H s => ⟨xs, sqT (s _ _ hq), Nat.le_refl _⟩)
      (fun i x H H' Qk Qn h s eD y hk _ => ?_) (fun H ts s e p => done D H ts nD s e (by rw [ef] at p; exact p))
  obtain ⟨rfl, y⟩ := y
  exact turn D i x _ Qk Qn (y xs (sqT (s _ _ hq))) s nD eD fun y H4 h4 s4 => hk y H4 rfl h4 s4
/-! ### tuples of whole numbers, compared -/
theorem dpI {K : PySem.W.Frag} {H : Hp} {T : Addr} {ks : List Int} (h : H T = some (.tup (ks.map V.int))) : Dp K H (.ref T) (.tuple (ks.map PyData.int)) := .tup (sqT h) (dpInts ks)
theorem shI (ks : List Int) : SeqAt.shaped (.tuple (ks.map PyData.int)) = true := by
  unfold SeqAt.shaped
  rw [show PyData.canLay0 (.tuple (ks.map PyData.int)) = PyData.canLayAll0 (ks.map PyData.int) from rfl, canInts, Bool.true_and, decide_eq_true_eq]
  show PyData.depthAll (ks.map PyData.int) + 1 ≤ 64
  rw [depInts]
  decide
theorem eqI (ks ls : List Int) : PyData.eqv (.tuple (ks.map PyData.int)) (.tuple (ls.map PyData.int)) = decide (ks = ls) := by
  rw [PyData.eqv]
  exact eqvInts ks ls
theorem eqIr (ks : List Int) : PyData.eqv (.tuple (ks.map PyData.int)) (.tuple (ks.map PyData.int)) = true := by
  rw [eqI]
  exact decide_eq_true rfl
end K7

set_option Elab.async false
set_option linter.all false
set_option maxRecDepth 100000
set_option maxHeartbeats 4000000
namespace K7
open PySem PySem.Spec PyProof.Rows L2 GX NdefX
def topS (i : Nat) : Stmt := PySem.Challenge.pw_guardrungs_k77_whole_worst_over_all_offs.main.body.getD i (.Pass ⟨0, 0, 0, 0⟩)
abbrev s_BadNumber_init : Stmt := inClass (topS 3) 0
abbrev s_TooMany_init : Stmt := inClass (topS 4) 0
abbrev s_is_whole : Stmt := topS 6
abbrev s_is_listed : Stmt := topS 7
abbrev s_is_time : Stmt := topS 9
abbrev s_check_jobs : Stmt := topS 11
abbrev s_check_place : Stmt := topS 12
abbrev s_Clock_init : Stmt := inClass (topS 13) 0
abbrev s_Clock_run_tick : Stmt := inClass (topS 13) 1
abbrev s_settled : Stmt := topS 14
abbrev s_first_miss : Stmt := topS 15
abbrev s_job_ends : Stmt := topS 16
abbrev s__rounded_up : Stmt := topS 18
abbrev s__row : Stmt := topS 19
abbrev s_rows_of_response : Stmt := topS 20
abbrev s_response : Stmt := topS 21
abbrev s_never_misses : Stmt := topS 22
abbrev s__law_numbers : Stmt := topS 24
abbrev s__law_draw : Stmt := topS 25
abbrev s__law_int : Stmt := topS 26
abbrev s__law_responses : Stmt := topS 27
abbrev s__law_common : Stmt := topS 28
abbrev s__law_times : Stmt := topS 29
abbrev s__law_offsets : Stmt := topS 30
abbrev s__law_at : Stmt := topS 31
abbrev s__law_rows_fit : Stmt := topS 32
abbrev s__law_refused : Stmt := topS 33
abbrev s__law_refusals_fit : Stmt := topS 34
abbrev s__law_drawn_fits : Stmt := topS 35
abbrev s_law : Stmt := topS 36
theorem ns_BadNumber_init : NScope ["self", "word", "__class__"] ["self", "word"] ["__class__"] (defScope s_BadNumber_init) := ⟨rfl, rfl, rfl, by decide +kernel, rfl, by decide +kernel, by decide +kernel, by decide +kernel, by decide +kernel⟩
theorem ns_TooMany_init : NScope ["self", "limit", "__class__"] ["self", "limit"] ["__class__"] (defScope s_TooMany_init) := ⟨rfl, rfl, rfl, by decide +kernel, rfl, by decide +kernel, by decide +kernel, by decide +kernel, by decide +kernel⟩
abbrev n_is_whole : List Str := ["value", "least", "most"]
theorem sc_is_whole : FnScope n_is_whole ["value", "least", "most"] (defScope s_is_whole) := ⟨rfl, rfl, rfl, by decide +kernel, rfl, by decide +kernel, by decide +kernel⟩
abbrev n_is_listed : List Str := ["value"]
theorem sc_is_listed : FnScope n_is_listed ["value"] (defScope s_is_listed) := ⟨rfl, rfl, rfl, by decide +kernel, rfl, by decide +kernel, by decide +kernel⟩
abbrev n_is_time : List Str := ["period", "offset", "most"]
theorem sc_is_time : FnScope n_is_time ["period", "offset", "most"] (defScope s_is_time) := ⟨rfl, rfl, rfl, by decide +kernel, rfl, by decide +kernel, by decide +kernel⟩
abbrev n_check_jobs : List Str := ["jobs", "job"]
theorem sc_check_jobs : FnScope n_check_jobs ["jobs"] (defScope s_check_jobs) := ⟨rfl, rfl, rfl, by decide +kernel, rfl, by decide +kernel, by decide +kernel⟩
abbrev n_check_place : List Str := ["jobs", "place"]
theorem sc_check_place : FnScope n_check_place ["jobs", "place"] (defScope s_check_place) := ⟨rfl, rfl, rfl, by decide +kernel, rfl, by decide +kernel, by decide +kernel⟩
abbrev n_Clock_init : List Str := ["self", "jobs"]
theorem sc_Clock_init : FnScope n_Clock_init ["self", "jobs"] (defScope s_Clock_init) := ⟨rfl, rfl, rfl, by decide +kernel, rfl, by decide +kernel, by decide +kernel⟩
abbrev n_Clock_run_tick : List Str := ["self", "place", "rungs", "period", "offset"]
theorem sc_Clock_run_tick : FnScope n_Clock_run_tick ["self"] (defScope s_Clock_run_tick) := ⟨rfl, rfl, rfl, by decide +kernel, rfl, by decide +kernel, by decide +kernel⟩
abbrev n_settled : List Str := ["jobs", "common", "_", "period", "clock", "met", "left"]
theorem sc_settled : FnScope n_settled ["jobs"] (defScope s_settled) := ⟨rfl, rfl, rfl, by decide +kernel, rfl, by decide +kernel, by decide +kernel⟩
abbrev n_first_miss : List Str := ["jobs"]
theorem sc_first_miss : FnScope n_first_miss ["jobs"] (defScope s_first_miss) := ⟨rfl, rfl, rfl, by decide +kernel, rfl, by decide +kernel, by decide +kernel⟩
abbrev n_job_ends : List Str := ["jobs", "place", "many", "told", "missed", "_", "rungs", "period", "offset", "clock", "times", "run"]
theorem sc_job_ends : FnScope n_job_ends ["jobs", "place", "many"] (defScope s_job_ends) := ⟨rfl, rfl, rfl, by decide +kernel, rfl, by decide +kernel, by decide +kernel⟩
abbrev n__rounded_up : List Str := ["number", "other"]
theorem sc__rounded_up : FnScope n__rounded_up ["number", "other"] (defScope s__rounded_up) := ⟨rfl, rfl, rfl, by decide +kernel, rfl, by decide +kernel, by decide +kernel⟩
abbrev n__row : List Str := ["jobs", "place", "rungs", "period", "_", "row", "behind", "many", "each"]
theorem sc__row : FnScope n__row ["jobs", "place"] (defScope s__row) := ⟨rfl, rfl, rfl, by decide +kernel, rfl, by decide +kernel, by decide +kernel⟩
abbrev n_rows_of_response : List Str := ["jobs", "place", "told"]
theorem sc_rows_of_response : FnScope n_rows_of_response ["jobs", "place"] (defScope s_rows_of_response) := ⟨rfl, rfl, rfl, by decide +kernel, rfl, by decide +kernel, by decide +kernel⟩
abbrev n_response : List Str := ["jobs", "place", "told", "last"]
theorem sc_response : FnScope n_response ["jobs", "place"] (defScope s_response) := ⟨rfl, rfl, rfl, by decide +kernel, rfl, by decide +kernel, by decide +kernel⟩
abbrev n_never_misses : List Str := ["jobs", "told", "place"]
theorem sc_never_misses : FnScope n_never_misses ["jobs"] (defScope s_never_misses) := ⟨rfl, rfl, rfl, by decide +kernel, rfl, by decide +kernel, by decide +kernel⟩
abbrev n__law_numbers : List Str := ["script", "numbers", "place", "cell", "turned", "turn", "seed"]
theorem sc__law_numbers : FnScope n__law_numbers ["script"] (defScope s__law_numbers) := ⟨rfl, rfl, rfl, by decide +kernel, rfl, by decide +kernel, by decide +kernel⟩
abbrev n__law_draw : List Str := ["numbers", "many"]
theorem sc__law_draw : FnScope n__law_draw ["numbers", "many"] (defScope s__law_draw) := ⟨rfl, rfl, rfl, by decide +kernel, rfl, by decide +kernel, by decide +kernel⟩
abbrev n__law_int : List Str := ["value"]
theorem sc__law_int : FnScope n__law_int ["value"] (defScope s__law_int) := ⟨rfl, rfl, rfl, by decide +kernel, rfl, by decide +kernel, by decide +kernel⟩
abbrev n__law_responses : List Str := ["jobs", "place", "row", "turn", "last", "total", "k"]
theorem sc__law_responses : FnScope n__law_responses ["jobs", "place"] (defScope s__law_responses) := ⟨rfl, rfl, rfl, by decide +kernel, rfl, by decide +kernel, by decide +kernel⟩
abbrev n__law_common : List Str := ["jobs", "common", "job"]
theorem sc__law_common : FnScope n__law_common ["jobs"] (defScope s__law_common) := ⟨rfl, rfl, rfl, by decide +kernel, rfl, by decide +kernel, by decide +kernel⟩
abbrev n__law_times : List Str := ["jobs", "left", "job", "came", "longest", "common", "kept", "still", "tick", "t", "run"]
theorem sc__law_times : FnScope n__law_times ["jobs"] (defScope s__law_times) := ⟨rfl, rfl, rfl, by decide +kernel, rfl, by decide +kernel, by decide +kernel⟩
abbrev n__law_offsets : List Str := ["jobs", "choices", "job", "longer", "choice", "offset"]
theorem sc__law_offsets : FnScope n__law_offsets ["jobs"] (defScope s__law_offsets) := ⟨rfl, rfl, rfl, by decide +kernel, rfl, by decide +kernel, by decide +kernel⟩
abbrev n__law_at : List Str := ["jobs", "offsets", "t"]
theorem sc__law_at : FnScope n__law_at ["jobs", "offsets"] (defScope s__law_at) := ⟨rfl, rfl, rfl, by decide +kernel, rfl, by decide +kernel, by decide +kernel⟩
abbrev n__law_rows_fit : List Str := ["jobs", "well", "place", "row", "told", "number", "due", "worst"]
theorem sc__law_rows_fit : FnScope n__law_rows_fit ["jobs"] (defScope s__law_rows_fit) := ⟨rfl, rfl, rfl, by decide +kernel, rfl, by decide +kernel, by decide +kernel⟩
abbrev n__law_refused : List Str := ["word", "jobs", "told", "raised"]
theorem sc__law_refused : FnScope n__law_refused ["word", "jobs"] (defScope s__law_refused) := ⟨rfl, rfl, rfl, by decide +kernel, rfl, by decide +kernel, by decide +kernel⟩
abbrev n__law_refusals_fit : List Str := ["numbers", "jobs", "at", "word", "wrong"]
theorem sc__law_refusals_fit : FnScope n__law_refusals_fit ["numbers", "jobs"] (defScope s__law_refusals_fit) := ⟨rfl, rfl, rfl, by decide +kernel, rfl, by decide +kernel, by decide +kernel⟩
abbrev n__law_drawn_fits : List Str := ["jobs", "asked", "shifted", "due", "place", "told"]
theorem sc__law_drawn_fits : FnScope n__law_drawn_fits ["jobs", "asked"] (defScope s__law_drawn_fits) := ⟨rfl, rfl, rfl, by decide +kernel, rfl, by decide +kernel, by decide +kernel⟩
abbrev n_law : List Str := ["script", "numbers", "word", "first", "jobs", "many", "t", "period", "asked", "job", "missed", "longest", "offsets", "told"]
theorem sc_law : FnScope n_law ["script"] (defScope s_law) := ⟨rfl, rfl, rfl, by decide +kernel, rfl, by decide +kernel, by decide +kernel⟩
end K7

set_option Elab.async false
set_option linter.all false
set_option maxRecDepth 100000
set_option maxHeartbeats 4000000
namespace K7
open PySem PySem.Spec PyProof.Rows L2 GX NdefX
/-- the built-in names are still the built-ins -/
structure Bl (mg : Str → Option Value) : Prop where
  all : mg "all" = none
  bool : mg "bool" = none
  enumerate : mg "enumerate" = none
  int : mg "int" = none
  isinstance : mg "isinstance" = none
  len : mg "len" = none
  list : mg "list" = none
  max : mg "max" = none
  min : mg "min" = none
  range : mg "range" = none
  str : mg "str" = none
  sum : mg "sum" = none
  tuple : mg "tuple" = none
/-- a def of the top: where it stands, how it is called -/
structure Kn (K : PySem.W.Frag) (mg : Str → Option Value) (x : Str) (st : Stmt) (ps : List Str) where
  f : Addr
  fd : FuncData
  F : Fun K x x st f fd
  b : Binds K fd ps []
  g : mg x = some (.ref f)
/-- an exception class of the top -/
structure Ke (P : Program) (K : PySem.W.Frag) (mg : Str → Option Value) (x q : Str) (st : Stmt) (ps fs : List Str) where
  C : Addr
  f : Addr
  fd : FuncData
  T : Sup P K mg C f q st fd
  b : Binds K fd ps []
  nf : ∀ y ∈ fs, PySem.W.findIn K (.ref C) y = some none
  g : mg x = some (.ref C)
  X : XfC K C
/-- a plain class of the top: its fields, its own __init__ -/
structure Kc (K : PySem.W.Frag) (mg : Str → Option Value) (x q : Str) (st : Stmt) (ps fs : List Str) where
  C : Addr
  f : Addr
  fd : FuncData
  F : Fun K "__init__" q st f fd
  b : Binds K fd ps []
  M : Mk K C f
  cl : Cls K C
  nf : ∀ y ∈ fs, NoAttr K C y
  g : mg x = some (.ref C)
/-- a method of it -/
structure Km (K : PySem.W.Frag) (C : Addr) (m q : Str) (st : Stmt) (ps : List Str) where
  f : Addr
  fd : FuncData
  F : Fun K m q st f fd
  b : Binds K fd ps []
  M : Meth K C m f
/-- the whole top -/
structure Pr (P : Program) (K : PySem.W.Frag) (mg : Str → Option Value) where
  B : Bl mg
  BadNumber : Ke P K mg "BadNumber" "BadNumber.__init__" s_BadNumber_init ["self", "word"] ["word"]
  TooMany : Ke P K mg "TooMany" "TooMany.__init__" s_TooMany_init ["self", "limit"] ["limit"]
  x_BadNumber_BadNumber : PySem.W.exmOne K (.ref BadNumber.C) (.ref BadNumber.C) = some true
  x_BadNumber_TooMany : PySem.W.exmOne K (.ref BadNumber.C) (.ref TooMany.C) = some false
  x_TooMany_BadNumber : PySem.W.exmOne K (.ref TooMany.C) (.ref BadNumber.C) = some false
  x_TooMany_TooMany : PySem.W.exmOne K (.ref TooMany.C) (.ref TooMany.C) = some true
  g_lcm : mg "lcm" = some (.builtin "math.lcm")
  Clock : Kc K mg "Clock" "Clock.__init__" s_Clock_init ["self", "jobs"] ["jobs", "tick", "left", "missed"]
  Clock_run_tick : Km K Clock.C "run_tick" "Clock.run_tick" s_Clock_run_tick ["self"]
  is_whole : Kn K mg "is_whole" s_is_whole ["value", "least", "most"]
  is_listed : Kn K mg "is_listed" s_is_listed ["value"]
  is_time : Kn K mg "is_time" s_is_time ["period", "offset", "most"]
  check_jobs : Kn K mg "check_jobs" s_check_jobs ["jobs"]
  check_place : Kn K mg "check_place" s_check_place ["jobs", "place"]
  settled : Kn K mg "settled" s_settled ["jobs"]
  first_miss : Kn K mg "first_miss" s_first_miss ["jobs"]
  job_ends : Kn K mg "job_ends" s_job_ends ["jobs", "place", "many"]
  _rounded_up : Kn K mg "_rounded_up" s__rounded_up ["number", "other"]
  _row : Kn K mg "_row" s__row ["jobs", "place"]
  rows_of_response : Kn K mg "rows_of_response" s_rows_of_response ["jobs", "place"]
  response : Kn K mg "response" s_response ["jobs", "place"]
  never_misses : Kn K mg "never_misses" s_never_misses ["jobs"]
  _law_numbers : Kn K mg "_law_numbers" s__law_numbers ["script"]
  _law_draw : Kn K mg "_law_draw" s__law_draw ["numbers", "many"]
  _law_int : Kn K mg "_law_int" s__law_int ["value"]
  _law_responses : Kn K mg "_law_responses" s__law_responses ["jobs", "place"]
  _law_common : Kn K mg "_law_common" s__law_common ["jobs"]
  _law_times : Kn K mg "_law_times" s__law_times ["jobs"]
  _law_offsets : Kn K mg "_law_offsets" s__law_offsets ["jobs"]
  _law_at : Kn K mg "_law_at" s__law_at ["jobs", "offsets"]
  _law_rows_fit : Kn K mg "_law_rows_fit" s__law_rows_fit ["jobs"]
  _law_refused : Kn K mg "_law_refused" s__law_refused ["word", "jobs"]
  _law_refusals_fit : Kn K mg "_law_refusals_fit" s__law_refusals_fit ["numbers", "jobs"]
  _law_drawn_fits : Kn K mg "_law_drawn_fits" s__law_drawn_fits ["jobs", "asked"]
end K7

set_option Elab.async false
set_option linter.all false
set_option maxRecDepth 100000
set_option maxHeartbeats 4000000
namespace K7
open PySem PySem.Spec PyProof.Rows L2 GX NdefX
/-! ### is_whole, is_listed, is_time -/
def spWhole : Sp := fun vs H Q _ => ∃ (x : V) (l m : Int), vs = [x, .int l, .int m] ∧ ((∃ i, x = .int i) ∨ ∃ b, x = .bl b) ∧ Q (.bl (wholeV l m x)) H
def spListed : Sp := fun vs H Q _ => ∃ x : V, vs = [x] ∧ ((∃ a xs, x = .ref a ∧ Sq H a xs ∧ ∀ H', Same H H' → Q (.bl true) H') ∨ (Scal x ∧ ∀ H', Same H H' → Q (.bl false) H'))
def spTime : Sp := fun vs H Q _ => ∃ (p o m : Int), vs = [.int p, .int o, .int m] ∧ Q (.bl (decide (1 ≤ p ∧ p ≤ m ∧ 0 ≤ o ∧ o ≤ p - 1))) H
def spWord (C : Addr) : Sp := fun vs H Q _ => ∃ (a : Addr) (z : Str), vs = [.ref a, .str z] ∧ H a = some (exo a C none) ∧ z.length ≤ 100 ∧
  ∀ dx, H dx = none → dx ≠ a → Q .non (upd (upd H dx (exd dx [("word", .str z)])) a (exo a C (some dx)))
def spLimit (C : Addr) : Sp := fun vs H Q _ => ∃ (a : Addr) (i : Int), vs = [.ref a, .int i] ∧ H a = some (exo a C none) ∧ i.natAbs.log2 < 1920 ∧ (Str.ofString (toString i)).length ≤ 100 ∧
  ∀ dx, H dx = none → dx ≠ a → Q .non (upd (upd H dx (exd dx [("limit", .int i)])) a (exo a C (some dx)))
section
variable {P : Program} {w : World} {K : PySem.W.Frag} {mg : Str → Option Value} {base : Heap}
theorem ok_whole {k : Nat} (D : Pr P K mg) : FnOk P w K mg base CX0 (k + 1) D.is_whole.f D.is_whole.fd ["value", "least", "most"] spWhole := by
  refine D.is_whole.F.ok sc_is_whole (fun vs H Q E h => ?_) (fun cdv A outer s H vs Q E hr h => ?_)
  · obtain ⟨x, l, m, rfl, _⟩ := h
    rfl
  · obtain ⟨x, l, m, rfl, hx, q⟩ := h
    refine ⟨_, (pss_cons (ps_if (PW.pt (pw_or (pt_not (pt_val (pe_callB call_isi (by rfl) D.B.isinstance (by decide +kernel) (pa_cons (pv 0) (pa_cons (pe_bltn (v := .ty "int") (u := .type "int") (by rfl) D.B.int (by decide +kernel) rfl) pa_nil))))) (pw_or1 (pt_val (pe_callB call_isi (by rfl) D.B.isinstance (by decide +kernel) (pa_cons (pv 0) (pa_cons (pe_bltn (v := .ty "bool") (u := .type "bool") (by rfl) D.B.bool (by decide +kernel) rfl) pa_nil))))))) (pss_one (ps_ret pe_bl)) pss_nil)
      (pss_one (ps_ret (pe_and (pe_cmpR op_le (pv 1) (pv 0) (nomark _)) (pe_one (pe_or (pe_cmpR op_isN (pv 2) pe_non (nomark _)) (pe_one (pe_cmpR op_le (pv 0) (pv 2) (nomark _))))))))), ?_⟩
    rcases hx with ⟨i, rfl⟩ | ⟨b, rfl⟩
    · refine ⟨_, rfl, _, _, .type "int", _, true, rfl, .ty "int", .base (.int i), kit_ty (by decide +kernel), true, rfl, iteF ?_⟩
      refine ⟨_, rfl, _, _, .type "int", _, false, rfl, .ty "bool", .base (.int i), kit_ty (by decide +kernel), false, rfl, iteF ?_⟩
      refine ⟨_, rfl, _, rfl, _, _, rfl, rfl, _, rfl, ?_⟩
      have q : Q (.bl (decide (l ≤ i) && decide (i ≤ m))) H := q
      by_cases h1 : l ≤ i
      · rw [decide_eq_true h1] at q ⊢
        refine iteT ⟨_, rfl, rfl, false, rfl, iteF ⟨_, rfl, _, rfl, _, _, rfl, rfl, ?_⟩⟩
        rw [Bool.true_and] at q
        exact q
      · rw [decide_eq_false h1] at q ⊢
        exact iteF q
    · refine ⟨_, rfl, _, _, .type "bool", _, true, rfl, .ty "int", .base (.bl b), kit_ty (by decide +kernel), true, rfl, iteF ?_⟩
      refine ⟨_, rfl, _, _, .type "bool", _, true, rfl, .ty "bool", .base (.bl b), kit_ty (by decide +kernel), true, rfl, iteT q⟩
theorem ok_listed {k : Nat} (D : Pr P K mg) : FnOk P w K mg base CX0 (k + 1) D.is_listed.f D.is_listed.fd ["value"] spListed := by
  refine D.is_listed.F.ok sc_is_listed (fun vs H Q E h => ?_) (fun cdv A outer s H vs Q E hr h => ?_)
  · obtain ⟨x, rfl, _⟩ := h
    rfl
  · obtain ⟨x, rfl, hx⟩ := h
    refine ⟨_, (pss_one (ps_ret (pe_callB call_isiT (by rfl) D.B.isinstance (by decide +kernel) (pa_cons (pv 0) (pa_cons (pe_tup (pa_cons (pe_bltn (v := .ty "list") (u := .type "list") (by rfl) D.B.list (by decide +kernel) rfl) (pa_cons (pe_bltn (v := .ty "tuple") (u := .type "tuple") (by rfl) D.B.tuple (by decide +kernel) rfl) pa_nil))) pa_nil))))), ?_⟩
    refine ⟨x, rfl, by show 2 ≤ sizeLine; decide, fun p np => ?_⟩
    have s1 : Same H (upd H p (.tup [.ty "list", .ty "tuple"])) := same_upd np
    have cl : Paired ClsV [.ty "list", .ty "tuple"] [.type "list", .type "tuple"] := .cons (.ty "list") (.cons (.ty "tuple") .nil)
    rcases hx with ⟨a, xs, rfl, hs, q⟩ | ⟨hs, q⟩
    · rcases hs with hs | hs
      · exact ⟨_, p, _, .type "list", _, true, rfl, upd_same, cl, .base (.lst (s1 _ _ hs)), kitAny_cons (b := true) (kit_ty (by decide +kernel)) (fun z => by cases z) (fun _ => rfl), q _ s1⟩
      · exact ⟨_, p, _, .type "tuple", _, true, rfl, upd_same, cl, .base (.tup (s1 _ _ hs)), kitAny_cons (b := false) (kit_ty (by decide +kernel)) (fun _ => kitAny_cons (b := true) (kit_ty (by decide +kernel)) (fun z => by cases z) (fun _ => rfl)) (fun z => by cases z), q _ s1⟩
    · rcases hs with rfl | ⟨i, rfl⟩ | ⟨z, rfl⟩
      · exact ⟨_, p, _, .type "NoneType", _, false, rfl, upd_same, cl, .base .non, kitAny_cons (b := false) (kit_ty (by decide +kernel)) (fun _ => kitAny_cons (b := false) (kit_ty (by decide +kernel)) (fun _ => kitAny_nil) (fun z => by cases z)) (fun z => by cases z), q _ s1⟩
      · exact ⟨_, p, _, .type "int", _, false, rfl, upd_same, cl, .base (.int i), kitAny_cons (b := false) (kit_ty (by decide +kernel)) (fun _ => kitAny_cons (b := false) (kit_ty (by decide +kernel)) (fun _ => kitAny_nil) (fun z => by cases z)) (fun z => by cases z), q _ s1⟩
      · exact ⟨_, p, _, .type "str", _, false, rfl, upd_same, cl, .base (.str z), kitAny_cons (b := false) (kit_ty (by decide +kernel)) (fun _ => kitAny_cons (b := false) (kit_ty (by decide +kernel)) (fun _ => kitAny_nil) (fun z => by cases z)) (fun z => by cases z), q _ s1⟩
theorem ok_time {k : Nat} (D : Pr P K mg) : FnOk P w K mg base CX0 (k + 2) D.is_time.f D.is_time.fd ["period", "offset", "most"] spTime := by
  have G_is_whole : FnOk P w K mg base CX0 (k + 1) D.is_whole.f D.is_whole.fd ["value", "least", "most"] spWhole := ok_whole D
  refine D.is_time.F.ok sc_is_time (fun vs H Q E h => ?_) (fun cdv A outer s H vs Q E hr h => ?_)
  · obtain ⟨p, o, m, rfl, _⟩ := h
    rfl
  · obtain ⟨p, o, m, rfl, q⟩ := h
    refine ⟨_, (pss_one (ps_ret (pe_and (pe_call G_is_whole hr (by rfl) D.is_whole.g D.is_whole.F.kp D.is_whole.b .nil pass0 (pa_cons (pv 0) (pa_cons pe_int (pa_cons (pv 2) pa_nil)))) (pe_one (pe_call G_is_whole hr (by rfl) D.is_whole.g D.is_whole.F.kp D.is_whole.b .nil pass0 (pa_cons (pv 1) (pa_cons pe_int (pa_cons (pe_op op_sub (pv 0) pe_int) pa_nil)))))))), ?_⟩
    refine ⟨.int p, rfl, .int m, rfl, .int p, 1, m, rfl, .inl ⟨p, rfl⟩, _, rfl, ?_⟩
    have e : wholeV 1 m (.int p) = (decide (1 ≤ p) && decide (p ≤ m)) := rfl
    rw [e]
    by_cases h1 : 1 ≤ p ∧ p ≤ m
    · rw [decide_eq_true h1.1, decide_eq_true h1.2]
      refine iteT ⟨.int o, rfl, .int p, rfl, p, 1, rfl, rfl, .int o, 0, p - 1, rfl, .inl ⟨o, rfl⟩, ?_⟩
      have e2 : wholeV 0 (p - 1) (.int o) = decide (1 ≤ p ∧ p ≤ m ∧ 0 ≤ o ∧ o ≤ p - 1) := by
        show (decide (0 ≤ o) && decide (o ≤ p - 1)) = _
        rw [← Bool.decide_and]
        exact decide_eq_decide.mpr ⟨fun z => ⟨h1.1, h1.2, z⟩, fun z => z.2.2⟩
      rw [e2]
      exact q
    · have e3 : (decide (1 ≤ p) && decide (p ≤ m)) = false := by
        rw [← Bool.decide_and]
        exact decide_eq_false h1
      rw [e3]
      refine iteF ?_
      rw [decide_eq_false (fun z => h1 ⟨z.1, z.2.1⟩)] at q
      exact q
/-! ### the exceptions' own __init__ -/
theorem ok_word {k : Nat} (D : Pr P K mg) : FnOk P w K mg base CX0 (k + 1) D.BadNumber.f D.BadNumber.fd ["self", "word"] (spWord D.BadNumber.C) := by
  refine fn_ofI D.BadNumber.T ns_BadNumber_init rfl rfl rfl (fun vs H Q E h => ?_) rfl (fun _ _ _ => ⟨rfl, rfl, ⟨_, rfl⟩, rfl, rfl⟩) (fun cc cda A outer s H vs Q E hr h => ?_)
  · obtain ⟨a, z, rfl, _⟩ := h
    rfl
  · obtain ⟨a, z, rfl, ha, hz, q⟩ := h
    refine ⟨a, _, _, _, rfl, ha, pa_cons (pe_joined (PJ.cons pe_str (PJ.cons (pe_fmt (pv 1)) PJ.nil))) pa_nil, pss_one (ps_ost (pv 0) (pv 1)), ?_⟩
    refine ⟨_, rfl, by rw [lenApp]; exact Nat.le_trans (by decide) (Nat.le_refl _), .str z, rfl, .inl ⟨z, rfl, Nat.le_trans hz (by decide), z, rfl, ?_, ha, by show 1 ≤ 1000; decide, ?_⟩⟩
    · rw [lenApp, lenApp]
      have : sizeLine = 16777216 := sizeLine_eq
      have e : (Str.ofString "out of range: ").length = 14 := by decide
      have e2 : Str.empty.length = 0 := by decide
      omega
    · exact ⟨.str z, rfl, .ref a, rfl, a, D.BadNumber.C, rfl, D.BadNumber.T.O, D.BadNumber.nf _ (by simp), .inl ⟨ha, q⟩⟩
theorem ok_limit {k : Nat} (D : Pr P K mg) : FnOk P w K mg base CX0 (k + 1) D.TooMany.f D.TooMany.fd ["self", "limit"] (spLimit D.TooMany.C) := by
  refine fn_ofI D.TooMany.T ns_TooMany_init rfl rfl rfl (fun vs H Q E h => ?_) rfl (fun _ _ _ => ⟨rfl, rfl, ⟨_, rfl⟩, rfl, rfl⟩) (fun cc cda A outer s H vs Q E hr h => ?_)
  · obtain ⟨a, z, rfl, _⟩ := h
    rfl
  · obtain ⟨a, i, rfl, ha, hi, hz, q⟩ := h
    refine ⟨a, _, _, _, rfl, ha, pa_cons (pe_joined (PJ.cons pe_str (PJ.cons (pe_fmt (pv 1)) PJ.nil))) pa_nil, pss_one (ps_ost (pv 0) (pv 1)), ?_⟩
    refine ⟨_, rfl, by rw [lenApp]; exact Nat.le_trans (by decide) (Nat.le_refl _), .int i, rfl, .inr ⟨i, rfl, hi, toString i, rfl, ?_, ha, by show 1 ≤ 1000; decide, ?_⟩⟩
    · rw [lenApp, lenApp]
      have : sizeLine = 16777216 := sizeLine_eq
      have e : (Str.ofString "more than ").length = 10 := by decide
      have e2 : Str.empty.length = 0 := by decide
      omega
    · exact ⟨.int i, rfl, .ref a, rfl, a, D.TooMany.C, rfl, D.TooMany.T.O, D.TooMany.nf _ (by simp), .inl ⟨ha, q⟩⟩
theorem mkO_word {E : XK} {C : Addr} {H H1 : Hp} {z : Str} (hz : z.length ≤ 100) (h : Rai E C H [("word", .str z)]) (s : Same H H1) :
    [V.str z].length ≤ 1000 ∧ ∀ a, H1 a = none → spWord C (.ref a :: ([V.str z] ++ [])) (upd H1 a (exo a C none)) (fun v H2 => v = .non ∧ ∃ d fs, H2 a = some (exo a C (some d)) ∧ H2 d = some (exd d fs) ∧ H1 d = none ∧ E (.ref C) (some d) (upd (del H2 a) d (.xd fs))) (fun _ _ _ => False) := by
  refine ⟨by show 1 ≤ 1000; decide, fun a na => ⟨a, z, rfl, upd_same, hz, fun dx nx ne => ?_⟩⟩
  rw [upd_ne ne] at nx
  refine ⟨rfl, dx, _, upd_same, by rw [upd_ne ne, upd_same], nx, h dx _ (s.trans (xsame na nx fun b h1 h2 => ?_)) upd_same⟩
  rw [upd_ne h1, upd_ne h2, upd_ne h1]
theorem mkO_limit {E : XK} {C : Addr} {H H1 : Hp} {i : Int} (hi : i.natAbs.log2 < 1920 ∧ (Str.ofString (toString i)).length ≤ 100) (h : Rai E C H [("limit", .int i)]) (s : Same H H1) :
    [V.int i].length ≤ 1000 ∧ ∀ a, H1 a = none → spLimit C (.ref a :: ([V.int i] ++ [])) (upd H1 a (exo a C none)) (fun v H2 => v = .non ∧ ∃ d fs, H2 a = some (exo a C (some d)) ∧ H2 d = some (exd d fs) ∧ H1 d = none ∧ E (.ref C) (some d) (upd (del H2 a) d (.xd fs))) (fun _ _ _ => False) := by
  refine ⟨by show 1 ≤ 1000; decide, fun a na => ⟨a, i, rfl, upd_same, hi.1, hi.2, fun dx nx ne => ?_⟩⟩
  rw [upd_ne ne] at nx
  refine ⟨rfl, dx, _, upd_same, by rw [upd_ne ne, upd_same], nx, h dx _ (s.trans (xsame na nx fun b h1 h2 => ?_)) upd_same⟩
  rw [upd_ne h1, upd_ne h2, upd_ne h1]
end
end K7

set_option Elab.async false
set_option linter.all false
set_option maxRecDepth 100000
set_option maxHeartbeats 4000000
namespace K7
open PySem PySem.Spec PyProof.Rows L2 GX NdefX
/-! ### jobs -/
structure Job where
  r : Nat
  p : Nat
  o : Nat
deriving DecidableEq, Inhabited
structure JOk (j : Job) : Prop where
  r1 : 1 ≤ j.r
  r2 : j.r ≤ 12
  p1 : 1 ≤ j.p
  p2 : j.p ≤ 24
  o1 : j.o < j.p
def jv (j : Job) : List V := [.int (j.r : Nat), .int (j.p : Nat), .int (j.o : Nat)]
def ji (j : Job) : List Int := [(j.r : Nat), (j.p : Nat), (j.o : Nat)]
theorem ji_v (j : Job) : (ji j).map V.int = jv j := rfl
/-- a tuple of tuples: jobs -/
def JobsT (H : Hp) (a : Addr) (js : List Job) : Prop := ∃ ts, H a = some (.tup ts) ∧ TupsT H ts (js.map jv)
theorem JobsT.same {H H' : Hp} {a : Addr} {js : List Job} (s : Same H H') (h : JobsT H a js) : JobsT H' a js := by
  obtain ⟨ts, e, p⟩ := h
  exact ⟨ts, s _ _ e, p.same s⟩
/-- what is handed in as a job: a list of numbers, or a thing that is none -/
def ItAt (H : Hp) (x : V) : Option (List Int) → Prop
  | none => Scal x
  | some ns => ∃ b, x = .ref b ∧ Sq H b (ns.map V.int) ∧ ns.length ≤ 1000
theorem ItAt.same {H H' : Hp} {x : V} {it : Option (List Int)} (s : Same H H') (h : ItAt H x it) : ItAt H' x it := by
  cases it with
  | none => exact h
  | some ns =>
    obtain ⟨b, e, h, l⟩ := h
    exact ⟨b, e, h.same s, l⟩
def goodL : List Int → Bool
  | [r, p, o] => decide (1 ≤ r ∧ r ≤ 12) && decide (1 ≤ p ∧ p ≤ 24 ∧ 0 ≤ o ∧ o ≤ p - 1)
  | _ => false
def goodI : Option (List Int) → Bool
  | some ns => goodL ns
  | none => false
def toJ : Option (List Int) → Job
  | some [r, p, o] => ⟨r.toNat, p.toNat, o.toNat⟩
  | _ => ⟨1, 1, 0⟩
theorem toJ_ok {it : Option (List Int)} (h : goodI it = true) : JOk (toJ it) ∧ it = some (ji (toJ it)) := by
  cases it with
  | none => cases h
  | some ns =>
    match ns, h with
    | [r, p, o], h =>
      have h : (decide (1 ≤ r ∧ r ≤ 12) && decide (1 ≤ p ∧ p ≤ 24 ∧ 0 ≤ o ∧ o ≤ p - 1)) = true := h
      rw [Bool.and_eq_true, decide_eq_true_iff, decide_eq_true_iff] at h
      obtain ⟨⟨h1, h2⟩, h3, h4, h5, h6⟩ := h
      refine ⟨⟨?_, ?_, ?_, ?_, ?_⟩, ?_⟩
      · show 1 ≤ r.toNat; omega
      · show r.toNat ≤ 12; omega
      · show 1 ≤ p.toNat; omega
      · show p.toNat ≤ 24; omega
      · show o.toNat < p.toNat; omega
      · show some [r, p, o] = some [((r.toNat : Nat) : Int), ((p.toNat : Nat) : Int), ((o.toNat : Nat) : Int)]
        rw [Int.toNat_of_nonneg (by omega), Int.toNat_of_nonneg (by omega), Int.toNat_of_nonneg (by omega)]
theorem good_ji {j : Job} (h : JOk j) : goodI (some (ji j)) = true := by
  show (decide (1 ≤ ((j.r : Nat) : Int) ∧ ((j.r : Nat) : Int) ≤ 12) && decide (1 ≤ ((j.p : Nat) : Int) ∧ ((j.p : Nat) : Int) ≤ 24 ∧ 0 ≤ ((j.o : Nat) : Int) ∧ ((j.o : Nat) : Int) ≤ ((j.p : Nat) : Int) - 1)) = true
  have := h.r1; have := h.r2; have := h.p1; have := h.p2; have := h.o1
  rw [decide_eq_true (by omega), decide_eq_true (by omega)]
  rfl
theorem toJ_ji (j : Job) : toJ (some (ji j)) = j := by
  show Job.mk _ _ _ = j
  rw [Int.toNat_natCast, Int.toNat_natCast, Int.toNat_natCast]
/-- what is handed in as jobs -/
def JbAt (H : Hp) (x : V) : Option (List (Option (List Int))) → Prop
  | none => Scal x
  | some its => ∃ a xs, x = .ref a ∧ Sq H a xs ∧ Paired (ItAt H) xs its ∧ its.length ≤ 1000
theorem JbAt.same {H H' : Hp} {x : V} {j : Option (List (Option (List Int)))} (s : Same H H') (h : JbAt H x j) : JbAt H' x j := by
  cases j with
  | none => exact h
  | some its =>
    obtain ⟨a, xs, e, h, p, l⟩ := h
    exact ⟨a, xs, e, h.same s, paired_imp (fun _ _ h => h.same s) p, l⟩
/-- what comes of checking: the jobs, or what is raised -/
inductive Chk where
  | num | many | ok (js : List Job)
def chk : Option (List (Option (List Int))) → Chk
  | none => .num
  | some its => if 5 < its.length then .many else if its.all goodI = true then .ok (its.map toJ) else .num
theorem chk_ok {j : Option (List (Option (List Int)))} {js : List Job} (h : chk j = .ok js) : js.length ≤ 5 ∧ ∀ x ∈ js, JOk x := by
  cases j with
  | none => cases h
  | some its =>
    have h : (if 5 < its.length then Chk.many else if its.all goodI = true then .ok (its.map toJ) else .num) = .ok js := h
    by_cases h5 : 5 < its.length
    · rw [if_pos h5] at h; cases h
    · rw [if_neg h5] at h
      by_cases hg : its.all goodI = true
      · rw [if_pos hg] at h
        cases h
        refine ⟨by rw [List.length_map]; omega, fun x hx => ?_⟩
        obtain ⟨it, hi, rfl⟩ := List.mem_map.mp hx
        exact (toJ_ok (List.all_eq_true.mp hg it hi)).1
      · rw [if_neg hg] at h; cases h
/-- what a def that checks jobs first promises -/
def Chkd (CN CM : Addr) (E : XK) (H : Hp) (ok : List Job → Prop) : Chk → Prop
  | .num => Rai E CN H [("word", .str "jobs")]
  | .many => Rai E CM H [("limit", .int 5)]
  | .ok js => ok js
def spCheck (CN CM : Addr) : Sp := fun vs H Q E => ∃ x j, vs = [x] ∧ JbAt H x j ∧ Chkd CN CM E H (fun js => ∀ a H', Same H H' → JobsT H' a js → Q (.ref a) H') (chk j)
theorem paired_range {α : Type} {T : Nat → α → Prop} {β : Type} {G : α → β → Prop} {ys : List β} : ∀ {ts : List α} {n : Nat}, Paired (fun x i => T i x) ts (List.range n) → n = ys.length → (∀ i x y, ys[i]? = some y → T i x → G x y) → Paired G ts ys := by
  intro ts n p e k
  subst e
  have key : ∀ {m s : List Nat} {ts : List α} (ys' : List β), Paired (fun x i => T i x) ts m → m.length = ys'.length → (∀ (j i : Nat) (y : β), m[j]? = some i → ys'[j]? = some y → ys[i]? = some y) → Paired G ts ys' := by
    intro m s ts ys' p
    induction p generalizing ys' with
    | nil =>
      intro l _
      cases ys' with
      | nil => exact .nil
      | cons _ _ => cases l
    | cons f r ih =>
      intro l h
      cases ys' with
      | nil => cases l
      | cons y ys' =>
        exact .cons (k _ _ _ (h 0 _ _ rfl rfl) f) (ih ys' (by simpa using l) fun j i y h1 h2 => h (j + 1) i y h1 h2)
  refine key (s := []) ys p (by rw [List.length_range]) fun j i y h1 h2 => ?_
  rw [List.getElem?_range] at h1
  · cases h1; exact h2
  · exact (List.getElem?_eq_some_iff.mp h2).1
section
variable {P : Program} {w : World} {K : PySem.W.Frag} {mg : Str → Option Value} {base : Heap}
theorem ok_check_jobs {k : Nat} (D : Pr P K mg) : FnOk P w K mg base (CX P w) (k + 3) D.check_jobs.f D.check_jobs.fd ["jobs"] (spCheck D.BadNumber.C D.TooMany.C) := by
  have G_is_whole : FnOk P w K mg base CX0 (k + 1) D.is_whole.f D.is_whole.fd ["value", "least", "most"] spWhole := ok_whole D
  have G_is_listed : FnOk P w K mg base CX0 (k + 1) D.is_listed.f D.is_listed.fd ["value"] spListed := ok_listed D
  have G_is_time : FnOk P w K mg base CX0 (k + 2) D.is_time.f D.is_time.fd ["period", "offset", "most"] spTime := ok_time D
  have GX_BadNumber : FnOk P w K mg base CX0 (k + 1) D.BadNumber.f D.BadNumber.fd ["self", "word"] (spWord D.BadNumber.C) := ok_word D
  have GX_TooMany : FnOk P w K mg base CX0 (k + 1) D.TooMany.f D.TooMany.fd ["self", "limit"] (spLimit D.TooMany.C) := ok_limit D
  refine D.check_jobs.F.okX sc_check_jobs (fun vs H Q E h => ?_) (fun cdv A outer s H vs Q E hr h => ?_)
  · obtain ⟨x, j, rfl, _⟩ := h
    rfl
  · obtain ⟨x, j, rfl, hj, h⟩ := h
    refine ⟨_, (pss_cons (ps_if (pt_not (pt_val (pe_call G_is_listed (hr.mono (by omega)) (by rfl) D.is_listed.g D.is_listed.F.kp D.is_listed.b .nil pass0 (pa_cons (pv 0) pa_nil)))) (pss_one (ps_raise rfl (takes_of rfl rfl rfl rfl) (pmk_oex D.BadNumber.T.O D.BadNumber.T.iC D.BadNumber.T.tI GX_BadNumber (hr.mono (by omega)) D.BadNumber.b .nil pass0 (by rfl) D.BadNumber.g (pa_cons pe_str pa_nil)))) pss_nil)
      (pss_cons (ps_if (pt_cmpR op_gt (pe_callB call_len (by rfl) D.B.len PySem.boot_len (pa_cons (pv 0) pa_nil)) pe_int (nomark _)) (pss_one (ps_raise rfl (takes_of rfl rfl rfl rfl) (pmk_oex D.TooMany.T.O D.TooMany.T.iC D.TooMany.T.tI GX_TooMany (hr.mono (by omega)) D.TooMany.b .nil pass0 (by rfl) D.TooMany.g (pa_cons pe_int pa_nil)))) pss_nil)
      (pss_cons (ps_for (by passes_own) rfl (pi_seq (pv 0)) (pg_name (i := 1) sc_check_jobs.nd rfl (.inl rfl)) (pss_one (ps_if (PW.pt (pw_or (pt_not (pt_val (pe_call G_is_listed (hr.mono (by omega)) (by rfl) D.is_listed.g D.is_listed.F.kp D.is_listed.b .nil pass0 (pa_cons (pv 1) pa_nil)))) (pw_or (pt_cmpR op_ne (pe_callB call_len (by rfl) D.B.len PySem.boot_len (pa_cons (pv 1) pa_nil)) pe_int (nomark _)) (pw_or (pt_not (pt_val (pe_call G_is_whole (hr.mono (by omega)) (by rfl) D.is_whole.g D.is_whole.F.kp D.is_whole.b .nil pass0 (pa_cons (pe_ix (r := rIx K) ix_seq (pv 1) pe_int (fun _ _ => rfl)) (pa_cons pe_int (pa_cons pe_int pa_nil)))))) (pw_or1 (pt_not (pt_val (pe_call G_is_time hr (by rfl) D.is_time.g D.is_time.F.kp D.is_time.b .nil pass0 (pa_cons (pe_ix (r := rIx K) ix_seq (pv 1) pe_int (fun _ _ => rfl)) (pa_cons (pe_ix (r := rIx K) ix_seq (pv 1) pe_int (fun _ _ => rfl)) (pa_cons pe_int pa_nil))))))))))) (pss_one (ps_raise rfl (takes_of rfl rfl rfl rfl) (pmk_oex D.BadNumber.T.O D.BadNumber.T.iC D.BadNumber.T.tI GX_BadNumber (hr.mono (by omega)) D.BadNumber.b .nil pass0 (by rfl) D.BadNumber.g (pa_cons pe_str pa_nil)))) pss_nil)))
      (pss_one (ps_ret (pe_callTy call_tuple_of (by rfl) D.B.tuple (by decide +kernel) (pa_cons (pe_lc (own := [("job", 1)]) (g := (gName 1)) (tt := tYes) rfl sc_check_jobs.nd (pi_seq (pv 0)) (blkOk_by (own := [("job", 1)]) (N := n_check_jobs) (sc := defScope s_check_jobs) (by decide +kernel)) (fun _ _ _ _ _ => (pg_name (i := 1) sc_check_jobs.nd rfl (.inl rfl))) (fun _ _ _ _ _ => pts_nil) (fun _ _ _ _ _ => (pe_callTy (r := rTupOf K) call_tuple_of (by rfl) D.B.tuple (by decide +kernel) (pa_cons (pv 1) pa_nil)))) pa_nil))))))), ?_⟩
    cases j with
    | none => exact ⟨x, rfl, x, rfl, .inr ⟨hj, fun H1 s1 => ⟨_, rfl, iteT (mkO_word (by decide) (h.same s1) (Same.refl _))⟩⟩⟩
    | some its =>
      obtain ⟨a, xs, rfl, hq, pl, hl⟩ := hj
      have lx : xs.length = its.length := pl.length
      refine ⟨.ref a, rfl, .ref a, rfl, .inl ⟨a, xs, rfl, hq, fun H1 s1 => ⟨_, rfl, iteF ?_⟩⟩⟩
      refine ⟨.ref a, rfl, .ref a, its.length, rfl, lenV_sq (hq.same s1) lx, its.length, 5, rfl, rfl, _, rfl, ?_⟩
      by_cases h5 : 5 < its.length
      · rw [decide_eq_true (by omega)]
        have h : Rai E D.TooMany.C H [("limit", .int 5)] := by
          have e : chk (some its) = .many := if_pos h5
          rw [e] at h
          exact h
        exact iteT (mkO_limit (by decide) (h.same s1) (Same.refl _))
      rw [decide_eq_false (by omega)]
      have bad : ∀ it ∈ its, goodI it = false → Rai E D.BadNumber.C H [("word", .str "jobs")] := fun it hi hb => by
        have e : chk (some its) = .num := by
          show (if 5 < its.length then Chk.many else if its.all goodI = true then .ok (its.map toJ) else .num) = .num
          rw [if_neg h5, if_neg fun z => by rw [List.all_eq_true.mp z it hi] at hb; cases hb]
        rw [e] at h
        exact h
      refine iteF ⟨.ref a, rfl, a, xs, rfl, forSeq (D := { nx := _, rt := Q }) (fun i σ H' => (∃ c1, σ = [some (.ref a), c1]) ∧ Same H1 H' ∧ ∀ k it, k < i → its[k]? = some it → goodI it = true) (hq.same s1) ⟨⟨_, rfl⟩, Same.refl _, fun k it h => absurd h (by omega)⟩ (fun i σ H' o p e => p.2.1 _ _ e) ?_ ?_⟩
      · rintro i y σ H2 hy ⟨⟨c1, rfl⟩, s2', hp⟩
        have s2 := s1.trans s2'
        obtain ⟨it, hit, hy2⟩ := paired_get pl hy
        have him : it ∈ its := List.mem_of_getElem? hit
        have fin : ∀ H3, Same H2 H3 → goodI it = true → (∃ c1, [some (V.ref a), some y] = [some (V.ref a), c1]) ∧ Same H1 H3 ∧ ∀ k it, k < i + 1 → its[k]? = some it → goodI it = true := fun H3 s3 hg => by
          refine ⟨⟨_, rfl⟩, s2'.trans s3, fun k it2 hk h2 => ?_⟩
          by_cases e : k = i
          · subst e
            rw [hit] at h2
            cases h2
            exact hg
          · exact hp k it2 (by omega) h2
        cases it with
        | none => exact ⟨y, rfl, y, rfl, .inr ⟨hy2, fun H3 s3 => ⟨_, rfl, iteT (mkO_word (by decide) ((bad _ him rfl).same (s2.trans s3)) (Same.refl _))⟩⟩⟩
        | some ns =>
          obtain ⟨b, rfl, hb, hnl⟩ := hy2
          have hb := hb.same s2
          refine ⟨.ref b, rfl, .ref b, rfl, .inl ⟨b, _, rfl, hb, fun H3 s3 => ⟨_, rfl, iteF ?_⟩⟩⟩
          have hb3 := hb.same s3
          have s03 := s2.trans s3
          refine ⟨.ref b, rfl, .ref b, ns.length, rfl, lenV_sq hb3 (List.length_map _), rfl, _, rfl, ?_⟩
          by_cases h3 : ns.length = 3
          case neg =>
            refine iteTq (by rw [decide_eq_false fun e => h3 (by have := V.int.inj e; omega)]; rfl) (mkO_word (by decide) ((bad _ him ?_).same s03) (Same.refl _))
            match ns, h3 with
            | [], _ => rfl
            | [_], _ => rfl
            | [_, _], _ => rfl
            | [_, _, _], h3 => exact absurd rfl h3
            | _ :: _ :: _ :: _ :: _, _ => rfl
          refine iteFq (by rw [decide_eq_true (by rw [h3]; rfl)]; rfl) ?_
          match ns, h3, hb3, fin, him with
          | [r, p, o], _, hb3, fin, him =>
            refine ⟨.ref b, rfl, rIx_sq hb3 (i := 0) rfl rfl ⟨.int r, 1, 12, rfl, .inl ⟨r, rfl⟩, _, rfl, ?_⟩⟩
            have e : wholeV 1 12 (.int r) = decide (1 ≤ r ∧ r ≤ 12) := (Bool.decide_and _ _).symm
            rw [e]
            have eg : goodI (some [r, p, o]) = (decide (1 ≤ r ∧ r ≤ 12) && decide (1 ≤ p ∧ p ≤ 24 ∧ 0 ≤ o ∧ o ≤ p - 1)) := rfl
            by_cases hr1 : 1 ≤ r ∧ r ≤ 12
            case neg =>
              rw [decide_eq_false hr1] at eg ⊢
              exact iteT (mkO_word (by decide) ((bad _ him eg).same s03) (Same.refl _))
            rw [decide_eq_true hr1] at eg ⊢
            refine iteF ⟨.ref b, rfl, rIx_sq hb3 (i := 1) rfl rfl ⟨.ref b, rfl, rIx_sq hb3 (i := 2) rfl rfl ⟨p, o, 24, rfl, _, rfl, ?_⟩⟩⟩
            by_cases hp1 : 1 ≤ p ∧ p ≤ 24 ∧ 0 ≤ o ∧ o ≤ p - 1
            case neg =>
              rw [decide_eq_false hp1] at eg ⊢
              exact iteT (mkO_word (by decide) ((bad _ him eg).same s03) (Same.refl _))
            rw [decide_eq_true hp1] at eg ⊢
            exact iteF (fin H3 s3 eg)
      · rintro σ H2 ⟨⟨c1, rfl⟩, s2', hp⟩
        have s2 := s1.trans s2'
        have hg : its.all goodI = true := List.all_eq_true.mpr fun it hi => by
          obtain ⟨k, hk, e⟩ := List.getElem_of_mem hi
          exact hp k it (by omega) (by rw [List.getElem?_eq_getElem hk, e])
        have q : ∀ a H', Same H H' → JobsT H' a (its.map toJ) → Q (.ref a) H' := by
          have e : chk (some its) = .ok (its.map toJ) := by
            show (if 5 < its.length then Chk.many else if its.all goodI = true then .ok (its.map toJ) else .num) = _
            rw [if_neg h5, if_pos hg]
          rw [e] at h
          exact h
        refine ⟨.ref a, rfl, a, xs, rfl, lcSeqP (T := fun i H x => ∀ it, its[i]? = some it → TupT H x (jv (toJ it))) (fun i H H' x s h it hi => (h it hi).same s) (fun D i H x us ys e _ h it hi => tup_upd e (h it hi)) (hq.same s2) (by omega) (fun D i y H3 Qk Qn hy s3 nD eD hk => ?_) (fun D H3 ts nD s3 eD pt => ?_)⟩
        · obtain ⟨it, hit, hy2⟩ := paired_get pl hy
          have hgi := List.all_eq_true.mp hg it (List.mem_of_getElem? hit)
          obtain ⟨_, ei⟩ := toJ_ok hgi
          rw [ei] at hy2
          obtain ⟨b, rfl, hb, _⟩ := hy2
          refine ⟨rfl, iteT (B := Qn H3) ⟨.ref b, rfl, tupOf (hb.same (s2.trans s3)) fun p H4 s4 e4 => hk _ H4 (fun it2 h2 => ?_) s4⟩⟩
          rw [hit] at h2
          cases h2
          exact ⟨p, rfl, e4⟩
        · refine ⟨D, ts, rfl, .inl ⟨sqL eD, fun l nl => q l _ (s2.trans (s3.trans (same_upd nl))) ⟨ts, upd_same, ?_⟩⟩⟩
          rw [List.map_map]
          exact TupsT.same (same_upd nl) (paired_map (paired_range pt lx fun i x it hi h => h it hi))
end
end K7

set_option Elab.async false
set_option linter.all false
set_option maxRecDepth 100000
set_option maxHeartbeats 4000000
namespace K7
/-! ### jobs run tick by tick -/
def comes (j : Job) (t : Nat) : Bool := t % j.p == j.o
def come1 (t : Nat) (j : Job) (x : Nat) : Nat := if comes j t = true then x + j.r else x
/-- what is left when the jobs of tick t have come -/
def arr (js : List Job) (t : Nat) (l : List Nat) : List Nat := List.zipWith (come1 t) js l
/-- the first place that has something left -/
def runW : List Nat → Option Nat
  | [] => none
  | 0 :: l => (runW l).map (· + 1)
  | (_ + 1) :: _ => some 0
def runL : List Nat → List Nat
  | [] => []
  | 0 :: l => 0 :: runL l
  | (x + 1) :: l => x :: l
def nextL (js : List Job) (t : Nat) (l : List Nat) : List Nat := runL (arr js t l)
def lefts (js : List Job) : Nat → List Nat
  | 0 => List.replicate js.length 0
  | t + 1 => nextL js t (lefts js t)
def whoR (js : List Job) (t : Nat) : Option Nat := runW (arr js t (lefts js t))
def whoV : Option Nat → Int
  | some i => (i : Nat)
  | none => -1
/-- the first place whose job comes while something is left of the one before -/
def missF (t : Nat) : Nat → List Job → List Nat → Option Nat
  | i, j :: js, x :: l => if comes j t = true ∧ 0 < x then some i else missF t (i + 1) js l
  | _, _, _ => none
def miss (js : List Job) (t : Nat) (l : List Nat) : Option Nat := missF t 0 js l
/-- the first miss ahead of tick T -/
def fm (js : List Job) : Nat → Option (Nat × Nat)
  | 0 => none
  | t + 1 => match fm js t with
    | some m => some m
    | none => (miss js t (lefts js t)).map fun i => (i, t)
theorem arr_len {js : List Job} {t : Nat} {l : List Nat} (h : l.length = js.length) : (arr js t l).length = js.length := by
  unfold arr; rw [List.length_zipWith, h]; omega
theorem runL_len : ∀ l : List Nat, (runL l).length = l.length
  | [] => rfl
  | 0 :: l => by show (runL l).length + 1 = _; rw [runL_len l]; rfl
  | (_ + 1) :: _ => rfl
theorem nextL_len {js : List Job} {t : Nat} {l : List Nat} (h : l.length = js.length) : (nextL js t l).length = js.length := by
  unfold nextL; rw [runL_len, arr_len h]
theorem lefts_len (js : List Job) : ∀ t, (lefts js t).length = js.length
  | 0 => List.length_replicate ..
  | t + 1 => nextL_len (lefts_len js t)
theorem arr_get {js : List Job} {t : Nat} {l : List Nat} {i : Nat} {j : Job} {x : Nat} (hj : js[i]? = some j) (hx : l[i]? = some x) : (arr js t l)[i]? = some (come1 t j x) := by
  unfold arr; rw [List.getElem?_zipWith, hj, hx]
/-- the jobs up to i have come -/
def part (js : List Job) (t : Nat) (l : List Nat) (i : Nat) : List Nat := (arr js t l).take i ++ l.drop i
theorem part_len {js : List Job} {t : Nat} {l : List Nat} (h : l.length = js.length) {i : Nat} (hi : i ≤ js.length) : (part js t l i).length = js.length := by
  unfold part; rw [List.length_append, List.length_take, List.length_drop, arr_len h, h]; omega
theorem part_get {js : List Job} {t : Nat} {l : List Nat} (h : l.length = js.length) {i : Nat} (hi : i < js.length) : (part js t l i)[i]? = l[i]? := by
  unfold part
  have e : ((arr js t l).take i).length = i := by rw [List.length_take, arr_len h]; omega
  rw [List.getElem?_append_right (by omega), e, Nat.sub_self, List.getElem?_drop]
  rfl
theorem set_mid {α : Type} (a : List α) (x y : α) (b : List α) : (a ++ x :: b).set a.length y = a ++ y :: b := by
  rw [List.set_append]; simp
theorem part_succ {js : List Job} {t : Nat} {l : List Nat} (h : l.length = js.length) {i : Nat} {j : Job} {x : Nat} (hj : js[i]? = some j) (hx : l[i]? = some x) : part js t l (i + 1) = (part js t l i).set i (come1 t j x) := by
  have hi : i < js.length := (List.getElem?_eq_some_iff.mp hj).1
  have e : ((arr js t l).take i).length = i := by rw [List.length_take, arr_len h]; omega
  have d : l.drop i = x :: l.drop (i + 1) := by
    obtain ⟨hl, e⟩ := List.getElem?_eq_some_iff.mp hx
    rw [List.drop_eq_getElem_cons hl, e]
  have tk : (arr js t l).take (i + 1) = (arr js t l).take i ++ [come1 t j x] := by
    rw [List.take_add_one, arr_get hj hx]; rfl
  unfold part
  rw [d, tk]
  have := set_mid ((arr js t l).take i) x (come1 t j x) (l.drop (i + 1))
  rw [e] at this
  rw [this, List.append_assoc]
  rfl
theorem part_zero {js : List Job} {t : Nat} {l : List Nat} : part js t l 0 = l := rfl
theorem part_all {js : List Job} {t : Nat} {l : List Nat} (h : l.length = js.length) : part js t l js.length = arr js t l := by
  unfold part
  rw [List.take_of_length_le (by rw [arr_len h]; omega), List.drop_of_length_le (by omega), List.append_nil]
theorem part_same {js : List Job} {t : Nat} {l : List Nat} (h : l.length = js.length) {i : Nat} {j : Job} {x : Nat} (hj : js[i]? = some j) (hx : l[i]? = some x) (hc : comes j t = false) : part js t l (i + 1) = part js t l i := by
  have hi : i < js.length := (List.getElem?_eq_some_iff.mp hj).1
  rw [part_succ h hj hx]
  have e : (part js t l i)[i]? = some (come1 t j x) := by
    rw [part_get h hi, hx]; unfold come1; rw [hc]; rfl
  obtain ⟨hl, e⟩ := List.getElem?_eq_some_iff.mp e
  conv => lhs; rw [← e]
  exact List.set_getElem_self hl
/-- the first miss among the jobs up to i -/
theorem missF_take {t : Nat} : ∀ (js : List Job) (l : List Nat) (s : Nat), l.length = js.length → ∀ i j x, js[i]? = some j → l[i]? = some x → missF t s (js.take (i + 1)) (l.take (i + 1)) = match missF t s (js.take i) (l.take i) with
    | some m => some m
    | none => if comes j t = true ∧ 0 < x then some (s + i) else none
  | [], _, _, _, i, j, x, hj, _ => by simp at hj
  | j0 :: js, [], _, h, _, _, _, _, _ => by simp at h
  | j0 :: js, x0 :: l, s, h, 0, j, x, hj, hx => by
    obtain rfl : j0 = j := by simpa using hj
    obtain rfl : x0 = x := by simpa using hx
    show (if _ then some s else missF t (s + 1) [] []) = if _ then some (s + 0) else none
    rfl
  | j0 :: js, x0 :: l, s, h, i + 1, j, x, hj, hx => by
    show (if comes j0 t = true ∧ 0 < x0 then some s else missF t (s + 1) (js.take (i + 1)) (l.take (i + 1))) = match (if comes j0 t = true ∧ 0 < x0 then some s else missF t (s + 1) (js.take i) (l.take i)) with | some m => some m | none => if comes j t = true ∧ 0 < x then some (s + (i + 1)) else none
    by_cases c : comes j0 t = true ∧ 0 < x0
    · rw [if_pos c, if_pos c]
    · rw [if_neg c, if_neg c, missF_take js l (s + 1) (by simpa using h) i j x (by simpa using hj) (by simpa using hx), show s + 1 + i = s + (i + 1) by omega]
def missP (js : List Job) (t : Nat) (l : List Nat) (i : Nat) : Option Nat := missF t 0 (js.take i) (l.take i)
theorem missP_succ {js : List Job} {t : Nat} {l : List Nat} (h : l.length = js.length) {i : Nat} {j : Job} {x : Nat} (hj : js[i]? = some j) (hx : l[i]? = some x) : missP js t l (i + 1) = match missP js t l i with
    | some m => some m
    | none => if comes j t = true ∧ 0 < x then some i else none := by
  have := missF_take js l 0 h i j x hj hx (t := t)
  rw [Nat.zero_add] at this
  exact this
theorem missP_all {js : List Job} {t : Nat} {l : List Nat} (h : l.length = js.length) : missP js t l js.length = miss js t l := by
  unfold missP miss
  rw [List.take_length, List.take_of_length_le (by omega)]
/-- the run -/
theorem run_hit : ∀ (b : List Nat) (i x : Nat), (∀ k, k < i → b[k]? = some 0) → b[i]? = some (x + 1) → runL b = b.set i x ∧ runW b = some i
  | [], i, x, _, h => by simp at h
  | 0 :: b, 0, x, _, h => by simp at h
  | (y + 1) :: b, 0, x, _, h => by
    obtain rfl : y = x := by simpa using h
    exact ⟨rfl, rfl⟩
  | y :: b, i + 1, x, h0, h => by
    obtain rfl : y = 0 := by simpa using h0 0 (by omega)
    obtain ⟨e1, e2⟩ := run_hit b i x (fun k hk => by simpa using h0 (k + 1) (by omega)) (by simpa using h)
    refine ⟨?_, ?_⟩
    · show 0 :: runL b = 0 :: b.set i x; rw [e1]
    · show (runW b).map (· + 1) = some (i + 1); rw [e2]; rfl
theorem run_none : ∀ b : List Nat, (∀ k, k < b.length → b[k]? = some 0) → runL b = b ∧ runW b = none
  | [], _ => ⟨rfl, rfl⟩
  | y :: b, h0 => by
    obtain rfl : y = 0 := by simpa using h0 0 (by simp)
    obtain ⟨e1, e2⟩ := run_none b fun k hk => by simpa using h0 (k + 1) (by simpa using hk)
    refine ⟨?_, ?_⟩
    · show 0 :: runL b = 0 :: b; rw [e1]
    · show (runW b).map (· + 1) = none; rw [e2]; rfl
end K7

set_option Elab.async false
set_option linter.all false
set_option maxRecDepth 100000
set_option maxHeartbeats 4000000
namespace K7
open PySem PySem.Spec PyProof.Rows L2 GX NdefX
/-! ### a clock -/
def spWholeN : Sp := fun vs H Q _ => ∃ (i l : Int), vs = [.int i, .int l, .non] ∧ Q (.bl (decide (l ≤ i))) H
theorem jl : ¬ (("jobs" : Str) = "left") := by decide +kernel
theorem jt : ¬ (("jobs" : Str) = "tick") := by decide +kernel
theorem jm : ¬ (("jobs" : Str) = "missed") := by decide +kernel
theorem tl : ¬ (("tick" : Str) = "left") := by decide +kernel
theorem tm : ¬ (("tick" : Str) = "missed") := by decide +kernel
theorem lm : ¬ (("left" : Str) = "missed") := by decide +kernel
def cf (a : Addr) (t : Nat) (L : Addr) (mv : V) : List (Str × V) := putF "missed" mv (putF "left" (.ref L) (putF "tick" (.int (t : Nat)) (putF "jobs" (.ref a) [])))
theorem cf_eq (a : Addr) (t : Nat) (L : Addr) (mv : V) : cf a t L mv = ([("jobs", V.ref a), ("tick", V.int (t : Nat)), ("left", V.ref L), ("missed", mv)] : List (Str × V)) := by
  simp [cf, putF, jt, jl, jm, tl, tm, lm]
theorem cf_jobs (a : Addr) (t : Nat) (L : Addr) (mv : V) : (cf a t L mv).lookup ("jobs" : Str) = some (.ref a) := by
  unfold cf
  rw [lookup_putF, if_neg jm, lookup_putF, if_neg jl, lookup_putF, if_neg jt, lookup_putF, if_pos rfl]
theorem cf_tick (a : Addr) (t : Nat) (L : Addr) (mv : V) : (cf a t L mv).lookup ("tick" : Str) = some (.int (t : Nat)) := by
  unfold cf
  rw [lookup_putF, if_neg tm, lookup_putF, if_neg tl, lookup_putF, if_pos rfl]
theorem cf_left (a : Addr) (t : Nat) (L : Addr) (mv : V) : (cf a t L mv).lookup ("left" : Str) = some (.ref L) := by
  unfold cf
  rw [lookup_putF, if_neg lm, lookup_putF, if_pos rfl]
theorem cf_missed (a : Addr) (t : Nat) (L : Addr) (mv : V) : (cf a t L mv).lookup ("missed" : Str) = some mv := by
  unfold cf
  rw [lookup_putF, if_pos rfl]
theorem cf_no (a : Addr) (t : Nat) (L : Addr) (mv : V) {m : Str} (h1 : ¬ m = "jobs") (h2 : ¬ m = "tick") (h3 : ¬ m = "left") (h4 : ¬ m = "missed") : (cf a t L mv).lookup m = none := by
  unfold cf
  rw [lookup_putF, if_neg h4, lookup_putF, if_neg h3, lookup_putF, if_neg h2, lookup_putF, if_neg h1]
  rfl
theorem cf_put_tick (a : Addr) (t t' : Nat) (L : Addr) (mv : V) : putF "tick" (.int (t' : Nat)) (cf a t L mv) = cf a t' L mv := by
  rw [cf_eq, cf_eq]
  simp [putF, jt]
theorem cf_put_missed (a : Addr) (t : Nat) (L : Addr) (mv mv' : V) : putF "missed" mv' (cf a t L mv) = cf a t L mv' := by
  rw [cf_eq, cf_eq]
  simp [putF, jm, tm, lm]
theorem cf_len (a : Addr) (t : Nat) (L : Addr) (mv : V) : (cf a t L mv).length < 1000 := by rw [cf_eq]; show 4 < 1000; decide
/-- the miss as the clock holds it -/
def MisV (H : Hp) (x : V) : Option (Nat × Nat) → Prop
  | none => x = .non
  | some (i, t) => ∃ T, x = .ref T ∧ H T = some (.tup [.int (i : Nat), .int (t : Nat)])
/-- all but the clock c and its list L stand as they stood -/
def K2 (c L : Addr) (H H' : Hp) : Prop := ∀ b o, b ≠ c → b ≠ L → H b = some o → H' b = some o
theorem K2.refl {c L : Addr} {H : Hp} : K2 c L H H := fun _ _ _ _ e => e
theorem K2.trans {c L : Addr} {H1 H2 H3 : Hp} (h : K2 c L H1 H2) (k : K2 c L H2 H3) : K2 c L H1 H3 := fun b o n m e => k b o n m (h b o n m e)
theorem k2_of {c L : Addr} {H H' : Hp} (s : Same H H') : K2 c L H H' := fun b o _ _ e => s b o e
/-- at c stands a clock: its list of what is left at L, its jobs at a -/
structure Ck (C : Addr) (H : Hp) (c L a : Addr) (js : List Job) (t : Nat) (l : List Nat) (m : Option (Nat × Nat)) : Prop where
  ob : ∃ dx mv, H c = some (.ins C dx (cf a t L mv)) ∧ MisV H mv m
  lst : H L = some (.lst (nts l))
  jobs : JobsT H a js
  len : l.length = js.length
theorem tup_k2 {c L b : Addr} {H H' : Hp} {C dx : Addr} {fs : List (Str × V)} {xs ys : List V} (k : K2 c L H H') (hc : H c = some (.ins C dx fs)) (hL : H L = some (.lst xs)) (h : H b = some (.tup ys)) : H' b = some (.tup ys) :=
  k b _ (ne_of h hc (by intro q; cases q)) (ne_of h hL (by intro q; cases q)) h
theorem TupsT.k2 {c L : Addr} {H H' : Hp} {C dx : Addr} {fs : List (Str × V)} {xs : List V} (k : K2 c L H H') (hc : H c = some (.ins C dx fs)) (hL : H L = some (.lst xs)) {ts : List V} {ls : List (List V)} (h : TupsT H ts ls) : TupsT H' ts ls :=
  paired_imp (fun x c ⟨b, e, hb⟩ => ⟨b, e, tup_k2 k hc hL hb⟩) h
theorem JobsT.k2 {c L a : Addr} {H H' : Hp} {C dx : Addr} {fs : List (Str × V)} {xs : List V} {js : List Job} (k : K2 c L H H') (hc : H c = some (.ins C dx fs)) (hL : H L = some (.lst xs)) (h : JobsT H a js) : JobsT H' a js := by
  obtain ⟨ts, e, p⟩ := h
  exact ⟨ts, tup_k2 k hc hL e, p.k2 k hc hL⟩
theorem MisV.k2 {c L : Addr} {H H' : Hp} {C dx : Addr} {fs : List (Str × V)} {xs : List V} {x : V} {m : Option (Nat × Nat)} (k : K2 c L H H') (hc : H c = some (.ins C dx fs)) (hL : H L = some (.lst xs)) (h : MisV H x m) : MisV H' x m := by
  cases m with
  | none => exact h
  | some m =>
    obtain ⟨T, e, hT⟩ := h
    exact ⟨T, e, tup_k2 k hc hL hT⟩
theorem MisV.same {H H' : Hp} {x : V} {m : Option (Nat × Nat)} (s : Same H H') (h : MisV H x m) : MisV H' x m := by
  cases m with
  | none => exact h
  | some m =>
    obtain ⟨T, e, hT⟩ := h
    exact ⟨T, e, s _ _ hT⟩
theorem Ck.same {C c L a : Addr} {H H' : Hp} {js : List Job} {t : Nat} {l : List Nat} {m : Option (Nat × Nat)} (s : Same H H') (h : Ck C H c L a js t l m) : Ck C H' c L a js t l m := by
  obtain ⟨⟨dx, mv, e, hm⟩, hl, hj, ln⟩ := h
  exact ⟨⟨dx, mv, s _ _ e, hm.same s⟩, s _ _ hl, hj.same s, ln⟩
def spInit (C : Addr) : Sp := fun vs H Q _ => ∃ (c a dx : Addr) (js : List Job), vs = [.ref c, .ref a] ∧ H c = some (.ins C dx []) ∧ JobsT H a js ∧ js.length ≤ 1000 ∧
  ∀ H' L, (∀ b o, b ≠ c → H b = some o → H' b = some o) → H L = none → Ck C H' c L a js 0 (List.replicate js.length 0) none → Q .non H'
def mNext (m : Option (Nat × Nat)) (x : Option Nat) (t : Nat) : Option (Nat × Nat) := match m with
  | some m => some m
  | none => x.map fun i => (i, t)
def spTick (C : Addr) : Sp := fun vs H Q _ => ∃ (c L a : Addr) (js : List Job) (t : Nat) (l : List Nat) (m : Option (Nat × Nat)), vs = [.ref c] ∧ Ck C H c L a js t l m ∧ (∀ j ∈ js, JOk j) ∧ js.length ≤ 1000 ∧
  ∀ H', K2 c L H H' → Ck C H' c L a js (t + 1) (nextL js t l) (mNext m (miss js t l) t) → Q (.int (whoV (runW (arr js t l)))) H'
def spPlace (CN : Addr) : Sp := fun vs H Q E => ∃ (a : Addr) (xs : List V) (i : Int), vs = [.ref a, .int i] ∧ H a = some (.tup xs) ∧ xs.length ≤ 1000 ∧ (if 0 ≤ i ∧ i < xs.length then Q .non H else Rai E CN H [("word", .str "place")])
section
variable {P : Program} {w : World} {K : PySem.W.Frag} {mg : Str → Option Value} {base : Heap}
theorem ok_wholeN {k : Nat} (D : Pr P K mg) : FnOk P w K mg base CX0 (k + 1) D.is_whole.f D.is_whole.fd ["value", "least", "most"] spWholeN := by
  refine D.is_whole.F.ok sc_is_whole (fun vs H Q E h => ?_) (fun cdv A outer s H vs Q E hr h => ?_)
  · obtain ⟨i, l, rfl, _⟩ := h
    rfl
  · obtain ⟨i, l, rfl, q⟩ := h
    refine ⟨_, (pss_cons (ps_if (PW.pt (pw_or (pt_not (pt_val (pe_callB call_isi (by rfl) D.B.isinstance (by decide +kernel) (pa_cons (pv 0) (pa_cons (pe_bltn (v := .ty "int") (u := .type "int") (by rfl) D.B.int (by decide +kernel) rfl) pa_nil))))) (pw_or1 (pt_val (pe_callB call_isi (by rfl) D.B.isinstance (by decide +kernel) (pa_cons (pv 0) (pa_cons (pe_bltn (v := .ty "bool") (u := .type "bool") (by rfl) D.B.bool (by decide +kernel) rfl) pa_nil))))))) (pss_one (ps_ret pe_bl)) pss_nil)
      (pss_one (ps_ret (pe_and (pe_cmpR op_le (pv 1) (pv 0) (nomark _)) (pe_one (pe_or (pe_cmpR op_isN (pv 2) pe_non (nomark _)) (pe_one (pe_cmpR op_le (pv 0) (pv 2) (nomark _))))))))), ?_⟩
    refine ⟨_, rfl, _, _, .type "int", _, true, rfl, .ty "int", .base (.int i), kit_ty (by decide +kernel), true, rfl, iteF ?_⟩
    refine ⟨_, rfl, _, _, .type "int", _, false, rfl, .ty "bool", .base (.int i), kit_ty (by decide +kernel), false, rfl, iteF ?_⟩
    refine ⟨_, rfl, _, rfl, _, _, rfl, rfl, _, rfl, ?_⟩
    by_cases h1 : l ≤ i
    · rw [decide_eq_true h1] at q ⊢
      exact iteT ⟨_, rfl, rfl, true, rfl, iteT q⟩
    · rw [decide_eq_false h1] at q ⊢
      exact iteF q
theorem ok_place {k : Nat} (D : Pr P K mg) : FnOk P w K mg base (CX P w) (k + 3) D.check_place.f D.check_place.fd ["jobs", "place"] (spPlace D.BadNumber.C) := by
  have G_is_whole : FnOk P w K mg base CX0 (k + 1) D.is_whole.f D.is_whole.fd ["value", "least", "most"] spWhole := ok_whole D
  have GX_BadNumber : FnOk P w K mg base CX0 (k + 1) D.BadNumber.f D.BadNumber.fd ["self", "word"] (spWord D.BadNumber.C) := ok_word D
  refine D.check_place.F.okX sc_check_place (fun vs H Q E h => ?_) (fun cdv A outer s H vs Q E hr h => ?_)
  · obtain ⟨a, xs, i, rfl, _⟩ := h
    rfl
  · obtain ⟨a, xs, i, rfl, ha, hl, q⟩ := h
    refine ⟨_, (pss_one (ps_if (pt_not (pt_val (pe_call G_is_whole (hr.mono (by omega)) (by rfl) D.is_whole.g D.is_whole.F.kp D.is_whole.b .nil pass0 (pa_cons (pv 1) (pa_cons pe_int (pa_cons (pe_op op_sub (pe_callB call_len (by rfl) D.B.len PySem.boot_len (pa_cons (pv 0) pa_nil)) pe_int) pa_nil)))))) (pss_one (ps_raise rfl (takes_of rfl rfl rfl rfl) (pmk_oex D.BadNumber.T.O D.BadNumber.T.iC D.BadNumber.T.tI GX_BadNumber (hr.mono (by omega)) D.BadNumber.b .nil pass0 (by rfl) D.BadNumber.g (pa_cons pe_str pa_nil)))) pss_nil)), ?_⟩
    refine ⟨.int i, rfl, .ref a, rfl, .ref a, xs.length, rfl, .inr ⟨_, sqT ha, rfl⟩, xs.length, 1, rfl, rfl, .int i, 0, (xs.length : Int) - 1, rfl, .inl ⟨i, rfl⟩, _, rfl, ?_⟩
    have e : wholeV 0 ((xs.length : Int) - 1) (.int i) = (decide (0 ≤ i) && decide (i ≤ (xs.length : Int) - 1)) := rfl
    rw [e, ← Bool.decide_and]
    by_cases h1 : 0 ≤ i ∧ i < xs.length
    · rw [if_pos h1] at q
      rw [decide_eq_true (by omega)]
      exact iteF q
    · rw [if_neg h1] at q
      rw [decide_eq_false (by omega)]
      exact iteT (mkO_word (by decide +kernel) q (Same.refl _))
theorem nts_rep : ∀ n : Nat, (List.replicate n [V.int 0]).flatten = nts (List.replicate n 0)
  | 0 => rfl
  | n + 1 => by
    rw [List.replicate_succ, List.flatten_cons, nts_rep n, List.replicate_succ]
    rfl
theorem ok_init {k : Nat} (D : Pr P K mg) : FnOk P w K mg base CX0 (k + 1) D.Clock.f D.Clock.fd ["self", "jobs"] (spInit D.Clock.C) := by
  refine D.Clock.F.ok sc_Clock_init (fun vs H Q E h => ?_) (fun cdv A outer s H vs Q E hr h => ?_)
  · obtain ⟨c, a, dx, js, rfl, _⟩ := h
    rfl
  · obtain ⟨c, a, dx, js, rfl, hc, hj, hl, q⟩ := h
    obtain ⟨ts, ha, pt⟩ := id hj
    have lts : ts.length = js.length := by have := pt.length; rw [List.length_map] at this; exact this
    have nac : a ≠ c := ne_of ha hc (by intro q; cases q)
    refine ⟨_, (pss_cons (ps_fld (pv 0) (pv 1) rfl)
      (pss_cons (ps_fld (pv 0) pe_int rfl)
      (pss_cons (ps_fld (pv 0) (pe_op op_rep (pe_lst (pa_cons pe_int pa_nil)) (pe_callB call_len (by rfl) D.B.len PySem.boot_len (pa_cons (pv 1) pa_nil))) rfl)
      (pss_one (ps_fld (pv 0) pe_non rfl))))), ?_⟩
    refine ⟨_, rfl, _, rfl, c, D.Clock.C, dx, [], rfl, hc, D.Clock.cl, D.Clock.nf _ (by simp), by show 0 < 1000; decide, ?_⟩
    refine ⟨_, rfl, c, D.Clock.C, dx, _, rfl, upd_same, D.Clock.cl, D.Clock.nf _ (by simp), by show 1 < 1000; decide, ?_⟩
    have np1 : upd (upd H c (.ins D.Clock.C dx (putF "jobs" (.ref a) []))) c (.ins D.Clock.C dx (putF "tick" (.int 0) (putF "jobs" (.ref a) []))) = upd H c (.ins D.Clock.C dx (putF "tick" (.int 0) (putF "jobs" (.ref a) []))) := by
      funext b
      by_cases hb : b = c
      · subst hb; rw [upd_same, upd_same]
      · rw [upd_ne hb, upd_ne hb, upd_ne hb]
    rw [np1]
    refine ⟨by show 1 ≤ sizeLine; decide, fun p np => ?_⟩
    have npc : p ≠ c := fun z => by rw [z, upd_same] at np; cases np
    have np0 : H p = none := by rw [upd_ne npc] at np; exact np
    have nap : a ≠ p := ne_of_none ha np0
    refine ⟨.ref a, rfl, .ref a, js.length, rfl, .inr ⟨_, sqT (by rw [upd_ne nap, upd_ne nac]; exact ha), lts.symm⟩, p, (js.length : Nat), [.int 0], rfl, rfl, upd_same, by omega, by omega, by show 1 * Int.toNat ((js.length : Nat) : Int) ≤ sizeLine; rw [sizeLine_eq]; omega, fun L nL => ?_⟩
    rw [Int.toNat_natCast, nts_rep]
    have nLp : L ≠ p := fun z => by rw [z, upd_same] at nL; cases nL
    have nLc : L ≠ c := fun z => by rw [z, upd_ne npc.symm, upd_same] at nL; cases nL
    have nL0 : H L = none := by rw [upd_ne nLp, upd_ne nLc] at nL; exact nL
    have nT : NoAttr K D.Clock.C "left" := D.Clock.nf _ (by simp)
    refine ⟨_, rfl, c, D.Clock.C, dx, _, rfl, by rw [upd_ne nLc.symm, upd_ne npc.symm, upd_same], D.Clock.cl, nT, by show 2 < 1000; decide, ?_⟩
    refine ⟨_, rfl, c, D.Clock.C, dx, _, rfl, upd_same, D.Clock.cl, D.Clock.nf _ (by simp), by show 3 < 1000; decide, ?_⟩
    have keep : ∀ b o, b ≠ c → H b = some o → (upd (upd (upd (upd (upd H c (.ins D.Clock.C dx (putF "tick" (.int 0) (putF "jobs" (.ref a) [])))) p (.lst [.int 0])) L (.lst (nts (List.replicate js.length 0)))) c (.ins D.Clock.C dx (putF "left" (.ref L) (putF "tick" (.int 0) (putF "jobs" (.ref a) []))))) c (.ins D.Clock.C dx (cf a 0 L .non))) b = some o := fun b o hb e => by
      rw [upd_ne hb, upd_ne hb, upd_ne (ne_of_none e nL0), upd_ne (ne_of_none e np0), upd_ne hb]
      exact e
    refine q _ L keep nL0 ⟨⟨dx, .non, upd_same, rfl⟩, by rw [upd_ne nLc, upd_ne nLc, upd_same], ⟨ts, keep _ _ nac ha, ?_⟩, by simp⟩
    exact paired_imp (fun x y ⟨b, e, hb⟩ => ⟨b, e, keep b _ (ne_of hb hc (by intro q; cases q)) hb⟩) pt
end
end K7

set_option Elab.async false
set_option linter.all false
set_option maxRecDepth 100000
set_option maxHeartbeats 4000000
namespace K7
open PySem PySem.Spec PyProof.Rows L2 GX NdefX
/-! ### one tick -/
theorem enumT_k2 {H H' : Hp} {ts : List Addr} {xs : List V} (h : EnumT H ts xs) (k : ∀ b ys, H b = some (.tup ys) → H' b = some (.tup ys)) : EnumT H' ts xs :=
  ⟨h.1, fun j t e => let ⟨x, e1, e2⟩ := h.2 j t e; ⟨x, e1, k _ _ e2⟩⟩
theorem nts_at {l : List Nat} {i x : Nat} (h : l[i]? = some x) : (nts l)[i]? = some (.int (x : Nat)) := by unfold nts; rw [List.getElem?_map, h]; rfl
theorem nts_set (l : List Nat) (i x : Nat) : (nts l).set i (.int (x : Nat)) = nts (l.set i x) := by unfold nts; rw [List.map_set]
theorem k2_upd {c L : Addr} {H : Hp} {o : HO} : K2 c L H (upd H L o) := fun b _ _ m e => by rw [upd_ne m]; exact e
theorem k2_updC {c L : Addr} {H : Hp} {o : HO} : K2 c L H (upd H c o) := fun b _ n _ e => by rw [upd_ne n]; exact e
theorem MisV.updL {L : Addr} {H : Hp} {x : V} {m : Option (Nat × Nat)} {xs : List V} {o : HO} (hL : H L = some (.lst xs)) (h : MisV H x m) : MisV (upd H L o) x m := by
  cases m with
  | none => exact h
  | some m =>
    obtain ⟨T, e, hT⟩ := h
    exact ⟨T, e, by rw [upd_ne (ne_of hT hL (by intro q; cases q))]; exact hT⟩
theorem MisV.updC {c C dx : Addr} {H : Hp} {x : V} {m : Option (Nat × Nat)} {fs : List (Str × V)} {o : HO} (hc : H c = some (.ins C dx fs)) (h : MisV H x m) : MisV (upd H c o) x m := by
  cases m with
  | none => exact h
  | some m =>
    obtain ⟨T, e, hT⟩ := h
    exact ⟨T, e, by rw [upd_ne (ne_of hT hc (by intro q; cases q))]; exact hT⟩
theorem mNext_none {m : Option (Nat × Nat)} {x : Option Nat} {t : Nat} (h : mNext m x t = none) : m = none ∧ x = none := by
  cases m with
  | some m => cases h
  | none => cases x with
    | some x => cases h
    | none => exact ⟨rfl, rfl⟩
section
variable {P : Program} {w : World} {K : PySem.W.Frag} {mg : Str → Option Value} {base : Heap}
theorem ok_tick {k : Nat} (D : Pr P K mg) : FnOk P w K mg base CX0 (k + 1) D.Clock_run_tick.f D.Clock_run_tick.fd ["self"] (spTick D.Clock.C) := by
  refine D.Clock_run_tick.F.ok sc_Clock_run_tick (fun vs H Q E h => ?_) (fun cdv A outer s H vs Q E hr h => ?_)
  · obtain ⟨c, L, a, js, t, l, m, rfl, _⟩ := h
    rfl
  · obtain ⟨c, L, a, js, t, l, m, rfl, ⟨⟨dx, mv, hc, hm⟩, hL, hj, ln⟩, hok, hjl, q⟩ := h
    obtain ⟨ts, ha, pt⟩ := id hj
    have lts : ts.length = js.length := by have := pt.length; rw [List.length_map] at this; exact this
    have nJ : NoAttr K D.Clock.C "jobs" := D.Clock.nf _ (by simp)
    have nT : NoAttr K D.Clock.C "tick" := D.Clock.nf _ (by simp)
    have nL : NoAttr K D.Clock.C "left" := D.Clock.nf _ (by simp)
    have nM : NoAttr K D.Clock.C "missed" := D.Clock.nf _ (by simp)
    have ncL : c ≠ L := ne_of hc hL (by intro q; cases q)
    refine ⟨_, (pss_cons (ps_for PassesOwn.never rfl (pi_list (pe_listEnum rfl (pe_fld (pv 0) rfl) (by rfl) D.B.list (by rfl) (by rfl) D.B.enumerate)) (pg_tup rfl (pgs_cons (pg_name (i := 1) sc_Clock_run_tick.nd rfl (.inl rfl)) (pgs_cons (pg_tup rfl (pgs_cons (pg_name (i := 2) sc_Clock_run_tick.nd rfl (.inl rfl)) (pgs_cons (pg_name (i := 3) sc_Clock_run_tick.nd rfl (.inl rfl)) (pgs_cons (pg_name (i := 4) sc_Clock_run_tick.nd rfl (.inl rfl)) pgs_nil)))) pgs_nil))) (pss_one (ps_if (pt_cmpR op_eq (pe_op (r := rModN) op_ModN (pe_fld (pv 0) rfl) (pv 3)) (pv 4) (nomark _)) (pss_cons (ps_if (PW.pt (pw_and (pt_cmpR op_gt (pe_ix (r := rIxL K) ix_list (pe_fld (pv 0) rfl) (pv 1) (fun _ _ => rfl)) pe_int (nomark _)) (pw_and1 (pt_cmpR op_isN (pe_fld (pv 0) rfl) pe_non (nomark _))))) (pss_one (ps_fld (pv 0) (pe_tup (pa_cons (pv 1) (pa_cons (pe_fld (pv 0) rfl) pa_nil))) rfl)) pss_nil) (pss_one (ps_augS (pe_fld (pv 0) rfl) (pv 1) get_list (pv 2) ip_addN set_list))) pss_nil)))
      (pss_cons (ps_fldaug (pv 0) pe_int in_addN)
      (pss_cons (ps_for PassesOwn.never rfl (pi_range1 (by rfl) D.B.range (pa_cons (pe_callB call_len (by rfl) D.B.len PySem.boot_len (pa_cons (pe_fld (pv 0) rfl) pa_nil)) pa_nil)) (pg_name (i := 1) sc_Clock_run_tick.nd rfl (.inl rfl)) (pss_one (ps_if (pt_cmpR op_gt (pe_ix (r := rIxL K) ix_list (pe_fld (pv 0) rfl) (pv 1) (fun _ _ => rfl)) pe_int (nomark _)) (pss_cons (ps_augS (pe_fld (pv 0) rfl) (pv 1) get_list pe_int ip_subN set_list) (pss_one (ps_ret (pv 1)))) pss_nil)))
      (pss_one (ps_ret (pe_un un_neg pe_int)))))), ?_⟩
    refine ⟨_, rfl, c, D.Clock.C, dx, _, _, rfl, hc, D.Clock.cl, nJ, cf_jobs _ _ _ _, a, ts, rfl, .inr (sqT ha), fun H1 p us k1 np nus pn nd ep eT => ⟨p, rfl, ⟨_, sqL ep⟩, ?_⟩⟩
    have lus : us.length = js.length := by rw [eT.1, lts]
    have npc : p ≠ c := fun z => by rw [z, hc] at np; cases np
    have npL : p ≠ L := fun z => by rw [z, hL] at np; cases np
    refine forLs (D := { nx := _, rt := Q }) (xs := us.map V.ref) (fun i σ H' => (∃ c1 c2 c3 c4, σ = [some (.ref c), c1, c2, c3, c4]) ∧ (∃ dx mv, H' c = some (.ins D.Clock.C dx (cf a t L mv)) ∧ MisV H' mv (mNext m (missP js t l i) t)) ∧ H' L = some (.lst (nts (part js t l i))) ∧ K2 c L H1 H')
      ep ⟨⟨_, _, _, _, rfl⟩, ⟨dx, mv, k1 _ _ hc, ?_⟩, k1 _ _ hL, K2.refl⟩ (fun i σ H' h => h.2.2.2 _ _ npc npL ep) ?_ ?_
    · have : mNext m (missP js t l 0) t = m := by cases m <;> rfl
      rw [this]
      exact hm.same k1
    · rintro i x σ H2 hx ⟨⟨c1, c2, c3, c4, rfl⟩, ⟨dx, mv, hc2, hm2⟩, hL2, k2⟩
      rw [List.getElem?_map] at hx
      obtain ⟨u, hu, rfl⟩ := Option.map_eq_some_iff.mp hx
      have hi : i < js.length := by have := (List.getElem?_eq_some_iff.mp hu).1; omega
      obtain ⟨x1, hx1, hu1⟩ := eT.2 i u hu
      obtain ⟨vs, b, hv, rfl, hb⟩ := tups_got pt hx1
      rw [List.getElem?_map] at hv
      obtain ⟨j, hji, rfl⟩ := Option.map_eq_some_iff.mp hv
      have jk := hok j (List.mem_of_getElem? hji)
      have hc1 := k1 _ _ hc
      have hL1 := k1 _ _ hL
      have hu2 := tup_k2 k2 hc1 hL1 hu1
      have hb2 := tup_k2 k2 hc1 hL1 (k1 _ _ hb)
      obtain ⟨y, hy⟩ : ∃ y, l[i]? = some y := ⟨_, List.getElem?_eq_getElem (by omega)⟩
      have hyp : (part js t l i)[i]? = some y := by rw [part_get ln hi, hy]
      refine ⟨u, _, rfl, sqT hu2, rfl, _, _, rfl, _, _, rfl, b, _, rfl, sqT hb2, rfl, _, _, rfl, _, _, rfl, _, _, rfl, rfl, rfl, ?_⟩
      refine ⟨_, rfl, c, D.Clock.C, dx, _, _, rfl, hc2, D.Clock.cl, nT, cf_tick _ _ _ _, _, rfl, t, j.p, rfl, rfl, jk.p1, _, rfl, rfl, _, rfl, ?_⟩
      have hct : decide (V.int ((t % j.p : Nat) : Int) = V.int ((j.o : Nat) : Int)) = comes j t := by
        unfold comes
        rw [Bool.eq_iff_iff, decide_eq_true_iff, beq_iff_eq]
        exact ⟨fun z => by injection z with z; exact_mod_cast z, fun z => by rw [z]⟩
      have tk2 : ∀ H3, K2 c L H2 H3 → K2 c L H1 H3 := fun H3 k3 => k2.trans k3
      by_cases hcm : comes j t = true
      · refine iteTq (hct.trans hcm) ?_
        have hps : part js t l (i + 1) = (part js t l i).set i (y + j.r) := by
          rw [part_succ ln hji hy]
          unfold come1
          rw [if_pos hcm]
        refine ⟨_, rfl, c, D.Clock.C, dx, _, _, rfl, hc2, D.Clock.cl, nL, cf_left _ _ _ _, _, rfl, L, _, i, _, rfl, rfl, sqL hL2, atI_nat (nts_at hyp), (y : Nat), 0, rfl, rfl, _, rfl, ?_⟩
        have hmn := missP_succ (t := t) ln hji hy
        by_cases hy0 : 0 < y
        · refine iteTq (decide_eq_true (by omega)) ⟨_, rfl, c, D.Clock.C, dx, _, _, rfl, hc2, D.Clock.cl, nM, cf_missed _ _ _ _, rfl, _, rfl, ?_⟩
          cases hmx : mNext m (missP js t l i) t with
          | some z =>
            rw [hmx] at hm2
            obtain ⟨T, rfl, hT⟩ := hm2
            refine iteFq (decide_eq_false (by intro z; cases z)) ?_
            have e2 : mNext m (missP js t l (i + 1)) t = some z := by
              rw [hmn]
              cases hq : missP js t l i with
              | some w => rw [hq] at hmx; exact hmx
              | none =>
                rw [hq] at hmx
                cases m with
                | some m => exact hmx
                | none => cases hmx
            exact ⟨_, rfl, c, D.Clock.C, dx, _, _, rfl, hc2, D.Clock.cl, nL, cf_left _ _ _ _, _, rfl, L, _, i, _, rfl, rfl, sqL hL2, nts_at hyp, _, rfl, y, j.r, rfl, rfl, trivial, L, _, _, i, rfl, rfl, hL2, ixN_nat (by unfold nts; rw [List.length_map, part_len ln (by omega)]; exact hi), ⟨_, _, _, _, rfl⟩, ⟨dx, _, by rw [upd_ne ncL]; exact hc2, by rw [e2]; exact MisV.updL (m := some z) hL2 ⟨T, rfl, hT⟩⟩, by rw [upd_same, nts_set, ← hps], k2.trans k2_upd⟩
          | none =>
            rw [hmx] at hm2
            obtain rfl : mv = .non := hm2
            obtain ⟨rfl, hmp⟩ := mNext_none hmx
            have e2 : missP js t l (i + 1) = some i := by rw [hmn, hmp, if_pos ⟨hcm, hy0⟩]
            refine iteTq (decide_eq_true rfl) ⟨_, rfl, _, rfl, c, D.Clock.C, dx, _, _, rfl, hc2, D.Clock.cl, nT, cf_tick _ _ _ _, by show 2 ≤ sizeLine; decide, fun T nT2 => ?_⟩
            have nTc : c ≠ T := ne_of_none hc2 nT2
            have nTL : L ≠ T := ne_of_none hL2 nT2
            refine ⟨_, rfl, c, D.Clock.C, dx, _, rfl, by rw [upd_ne nTc]; exact hc2, D.Clock.cl, nM, cf_len _ _ _ _, ?_⟩
            rw [cf_put_missed]
            have hc3 : (upd (upd H2 T (.tup [.int (i : Nat), .int (t : Nat)])) c (.ins D.Clock.C dx (cf a t L (.ref T)))) c = some (.ins D.Clock.C dx (cf a t L (.ref T))) := upd_same
            have hL3 : (upd (upd H2 T (.tup [.int (i : Nat), .int (t : Nat)])) c (.ins D.Clock.C dx (cf a t L (.ref T)))) L = some (.lst (nts (part js t l i))) := by rw [upd_ne ncL.symm, upd_ne nTL]; exact hL2
            have hT3 : (upd (upd H2 T (.tup [.int (i : Nat), .int (t : Nat)])) c (.ins D.Clock.C dx (cf a t L (.ref T)))) T = some (.tup [.int (i : Nat), .int (t : Nat)]) := by rw [upd_ne nTc.symm, upd_same]
            have k3 : K2 c L H2 (upd (upd H2 T (.tup [.int (i : Nat), .int (t : Nat)])) c (.ins D.Clock.C dx (cf a t L (.ref T)))) := fun b o n1 n2 e => by rw [upd_ne n1, upd_ne (ne_of_none e nT2)]; exact e
            generalize upd (upd H2 T (.tup [.int (i : Nat), .int (t : Nat)])) c (.ins D.Clock.C dx (cf a t L (.ref T))) = H3 at hc3 hL3 hT3 k3 ⊢
            exact ⟨_, rfl, c, D.Clock.C, dx, _, _, rfl, hc3, D.Clock.cl, nL, cf_left _ _ _ _, _, rfl, L, _, i, _, rfl, rfl, sqL hL3, nts_at hyp, _, rfl, y, j.r, rfl, rfl, trivial, L, _, _, i, rfl, rfl, hL3, ixN_nat (by unfold nts; rw [List.length_map, part_len ln (by omega)]; exact hi), ⟨_, _, _, _, rfl⟩, ⟨dx, _, by rw [upd_ne ncL]; exact hc3, by rw [e2]; exact MisV.updL (m := some (i, t)) hL3 ⟨T, rfl, hT3⟩⟩, by rw [upd_same, nts_set, ← hps], (k2.trans k3).trans k2_upd⟩
        · refine iteFq (decide_eq_false (by omega)) ?_
          have e2 : missP js t l (i + 1) = missP js t l i := by
            rw [hmn]
            cases missP js t l i with
            | some z => rfl
            | none => exact if_neg fun z => hy0 z.2
          exact ⟨_, rfl, c, D.Clock.C, dx, _, _, rfl, hc2, D.Clock.cl, nL, cf_left _ _ _ _, _, rfl, L, _, i, _, rfl, rfl, sqL hL2, nts_at hyp, _, rfl, y, j.r, rfl, rfl, trivial, L, _, _, i, rfl, rfl, hL2, ixN_nat (by unfold nts; rw [List.length_map, part_len ln (by omega)]; exact hi), ⟨_, _, _, _, rfl⟩, ⟨dx, _, by rw [upd_ne ncL]; exact hc2, by rw [e2]; exact hm2.updL hL2⟩, by rw [upd_same, nts_set, ← hps], k2.trans k2_upd⟩
      · have hcf : comes j t = false := by simpa using hcm
        refine iteFq (hct.trans hcf) ⟨⟨_, _, _, _, rfl⟩, ⟨dx, mv, hc2, ?_⟩, ?_, k2⟩
        · rw [missP_succ ln hji hy]
          cases hmp : missP js t l i with
          | some z => rw [hmp] at hm2; exact hm2
          | none =>
            rw [hmp] at hm2
            show MisV H2 mv (mNext m (if comes j t = true ∧ 0 < y then some i else none) t)
            rw [if_neg (fun z => hcm z.1)]
            exact hm2
        · rw [part_same ln hji hy hcf]
          exact hL2
    · rintro σ H2 ⟨⟨c1, c2, c3, c4, rfl⟩, ⟨dx, mv, hc2, hm2⟩, hL2, k2⟩
      rw [List.length_map, lus, part_all ln] at hL2
      rw [List.length_map, lus, missP_all ln] at hm2
      refine ⟨_, rfl, c, D.Clock.C, dx, _, _, rfl, hc2, D.Clock.cl, nT, cf_tick _ _ _ _, t, 1, rfl, rfl, dx, _, hc2, cf_len _ _ _ _, ?_⟩
      rw [cf_put_tick]
      have hc3 : (upd H2 c (.ins D.Clock.C dx (cf a (t + 1) L mv))) c = some (.ins D.Clock.C dx (cf a (t + 1) L mv)) := upd_same
      have hL3 : (upd H2 c (.ins D.Clock.C dx (cf a (t + 1) L mv))) L = some (.lst (nts (arr js t l))) := by rw [upd_ne ncL.symm]; exact hL2
      have hm3 : MisV (upd H2 c (.ins D.Clock.C dx (cf a (t + 1) L mv))) mv (mNext m (miss js t l) t) := hm2.updC hc2
      have k3 : K2 c L H (upd H2 c (.ins D.Clock.C dx (cf a (t + 1) L mv))) := ((k2_of k1).trans k2).trans k2_updC
      generalize upd H2 c (.ins D.Clock.C dx (cf a (t + 1) L mv)) = H3 at hc3 hL3 hm3 k3 ⊢
      have lb : (arr js t l).length = js.length := arr_len ln
      refine ⟨_, rfl, c, D.Clock.C, dx, _, _, rfl, hc3, D.Clock.cl, nL, cf_left _ _ _ _, .ref L, js.length, rfl, .inl ⟨_, sqL hL3, by unfold nts; rw [List.length_map, lb]⟩, (js.length : Nat), rfl, by omega, by omega, ?_⟩
      refine forRg (D := { nx := _, rt := Q }) (n := js.length) (fun i σ H' => (∃ c1 c2 c3 c4, σ = [some (.ref c), c1, c2, c3, c4]) ∧ H' = H3 ∧ ∀ k, k < i → (arr js t l)[k]? = some 0) ⟨⟨_, _, _, _, rfl⟩, rfl, fun k hk => by omega⟩ ?_ ?_
      · rintro i σ H4 hi ⟨⟨c1, c2, c3, c4, rfl⟩, rfl, h0⟩
        obtain ⟨y, hy⟩ : ∃ y, (arr js t l)[i]? = some y := ⟨_, List.getElem?_eq_getElem (by omega)⟩
        refine ⟨_, rfl, c, D.Clock.C, dx, _, _, rfl, hc3, D.Clock.cl, nL, cf_left _ _ _ _, _, rfl, L, _, i, _, rfl, rfl, sqL hL3, atI_nat (nts_at hy), (y : Nat), 0, rfl, rfl, _, rfl, ?_⟩
        cases y with
        | zero => exact iteFq (by rfl) ⟨⟨_, _, _, _, rfl⟩, rfl, fun k hk => by
            by_cases hki : k = i
            · rw [hki]; exact hy
            · exact h0 k (by omega)⟩
        | succ y =>
          obtain ⟨e1, e2⟩ := run_hit _ i y h0 hy
          refine iteTq (decide_eq_true (by omega)) ⟨_, rfl, c, D.Clock.C, dx, _, _, rfl, hc3, D.Clock.cl, nL, cf_left _ _ _ _, _, rfl, L, _, i, _, rfl, rfl, sqL hL3, nts_at hy, y + 1, 1, rfl, rfl, by omega, L, _, _, i, rfl, rfl, hL3, ixN_nat (by unfold nts; rw [List.length_map, lb]; exact hi), _, rfl, ?_⟩
          rw [e2] at q
          refine q _ (k3.trans k2_upd) ⟨⟨dx, mv, by rw [upd_ne ncL]; exact hc3, hm3.updL hL3⟩, ?_, ?_, nextL_len ln⟩
          · rw [upd_same, nts_set]
            show some (HO.lst (nts ((arr js t l).set i y))) = _
            unfold nextL
            rw [e1]
          · exact (hj.k2 k3 hc hL).k2 k2_upd hc3 hL3
      · rintro σ H4 ⟨⟨c1, c2, c3, c4, rfl⟩, rfl, h0⟩
        obtain ⟨e1, e2⟩ := run_none (arr js t l) (by rw [lb]; exact h0)
        rw [e2] at q
        exact ⟨1, rfl, q H4 k3 ⟨⟨dx, mv, hc3, hm3⟩, by rw [hL3]; unfold nextL; rw [e1], hj.k2 k3 hc hL, nextL_len ln⟩⟩
end
end K7

set_option Elab.async false
set_option linter.all false
set_option maxRecDepth 100000
set_option maxHeartbeats 4000000
namespace K7
open PySem PySem.Spec L2
/-! ### no miss, the first miss -/
def NoM (js : List Job) (T : Nat) : Prop := ∀ t, t < T → miss js t (lefts js t) = none
theorem NoM.succ {js : List Job} {T : Nat} (h : NoM js T) (m : miss js T (lefts js T) = none) : NoM js (T + 1) := fun t ht => by
  by_cases e : t = T
  · rw [e]; exact m
  · exact h t (by omega)
theorem NoM.mono {js : List Job} {S T : Nat} (h : NoM js T) (l : S ≤ T) : NoM js S := fun t ht => h t (by omega)
theorem fm_none {js : List Job} : ∀ {T : Nat}, fm js T = none ↔ NoM js T
  | 0 => ⟨fun _ t ht => by omega, fun _ => rfl⟩
  | T + 1 => by
    show (match fm js T with | some m => some m | none => (miss js T (lefts js T)).map fun i => (i, T)) = none ↔ _
    cases e : fm js T with
    | some m =>
      refine ⟨fun h => (by cases h), fun h => ?_⟩
      have := (fm_none (js := js) (T := T)).mpr (h.mono (Nat.le_succ T))
      rw [e] at this; cases this
    | none =>
      have n := (fm_none (js := js) (T := T)).mp e
      refine ⟨fun h => n.succ (Option.map_eq_none_iff.mp h), fun h => ?_⟩
      show Option.map _ (miss js T (lefts js T)) = none
      rw [h T (by omega)]; rfl
theorem fm_some {js : List Job} {i t : Nat} : ∀ {T : Nat}, fm js T = some (i, t) → t < T ∧ miss js t (lefts js t) = some i ∧ NoM js t
  | 0 => fun h => by cases h
  | T + 1 => fun h => by
    have h : (match fm js T with | some m => some m | none => (miss js T (lefts js T)).map fun i => (i, T)) = some (i, t) := h
    cases e : fm js T with
    | some m =>
      rw [e] at h
      obtain ⟨h1, h2⟩ := fm_some (T := T) (e.trans h)
      exact ⟨by omega, h2⟩
    | none =>
      rw [e] at h
      obtain ⟨x, hx, e2⟩ := Option.map_eq_some_iff.mp h
      cases e2
      exact ⟨Nat.lt_succ_self _, hx, fm_none.mp e⟩
theorem fm_at {js : List Job} {i t : Nat} (h : miss js t (lefts js t) = some i) (n : NoM js t) : fm js (t + 1) = some (i, t) := by
  show (match fm js t with | some m => some m | none => (miss js t (lefts js t)).map fun i => (i, t)) = some (i, t)
  rw [fm_none.mpr n, h]; rfl
/-- r is the first miss of all -/
def IsFM (js : List Job) : Option (Nat × Nat) → Prop
  | none => ∀ t, miss js t (lefts js t) = none
  | some (i, t) => miss js t (lefts js t) = some i ∧ NoM js t
theorem IsFM.uniq {js : List Job} {r s : Option (Nat × Nat)} (h : IsFM js r) (k : IsFM js s) : r = s := by
  match r, s, h, k with
  | none, none, _, _ => rfl
  | none, some (i, t), h, k => have := h t; rw [k.1] at this; cases this
  | some (i, t), none, h, k => have := k t; rw [h.1] at this; cases this
  | some (i, t), some (i', t'), h, k =>
    obtain ⟨h1, h2⟩ := h
    obtain ⟨k1, k2⟩ := k
    have e : t = t' := by
      rcases Nat.lt_trichotomy t t' with z | z | z
      · rw [k2 t z] at h1; cases h1
      · exact z
      · rw [h2 t' z] at k1; cases k1
    subst e
    rw [h1] at k1
    cases k1
    rfl
/-! ### periods -/
def Per (js : List Job) (c : Nat) : Prop := 1 ≤ c ∧ ∀ j ∈ js, j.p ∣ c
theorem comes_per {j : Job} {c : Nat} (h : j.p ∣ c) (t : Nat) : comes j (t + c) = comes j t := by
  unfold comes
  obtain ⟨k, rfl⟩ := h
  rw [Nat.add_mul_mod_self_left]
theorem arr_per {c : Nat} : ∀ {js : List Job} {l : List Nat}, (∀ j ∈ js, j.p ∣ c) → ∀ t, arr js (t + c) l = arr js t l
  | [], l, _, t => by unfold arr; rw [List.zipWith_nil_left, List.zipWith_nil_left]
  | j :: js, [], _, t => rfl
  | j :: js, x :: l, h, t => by
    show come1 (t + c) j x :: arr js (t + c) l = come1 t j x :: arr js t l
    rw [arr_per (fun k hk => h k (List.mem_cons_of_mem _ hk)) t]
    unfold come1
    rw [comes_per (h j List.mem_cons_self)]
theorem missF_per {c : Nat} : ∀ {js : List Job} {l : List Nat} {s : Nat}, (∀ j ∈ js, j.p ∣ c) → ∀ t, missF (t + c) s js l = missF t s js l
  | [], l, s, _, t => by cases l <;> rfl
  | j :: js, [], s, _, t => rfl
  | j :: js, x :: l, s, h, t => by
    show (if comes j (t + c) = true ∧ 0 < x then some s else missF (t + c) (s + 1) js l) = if comes j t = true ∧ 0 < x then some s else missF t (s + 1) js l
    rw [missF_per (fun k hk => h k (List.mem_cons_of_mem _ hk)) t, comes_per (h j List.mem_cons_self)]
theorem per_mul {js : List Job} {c : Nat} (h : Per js c) (k : Nat) : ∀ j ∈ js, j.p ∣ c * k := fun j hj => Nat.dvd_trans (h.2 j hj) (Nat.dvd_mul_right _ _)
/-- the same left at two multiples: the same from there on -/
theorem lefts_rep {js : List Job} {c : Nat} (h : Per js c) {i k : Nat} (e : lefts js (c * i) = lefts js (c * k)) : ∀ s, lefts js (c * i + s) = lefts js (c * k + s)
  | 0 => e
  | s + 1 => by
    show nextL js (c * i + s) (lefts js (c * i + s)) = nextL js (c * k + s) (lefts js (c * k + s))
    rw [lefts_rep h e s]
    unfold nextL
    rw [Nat.add_comm (c * i) s, Nat.add_comm (c * k) s, arr_per (per_mul h i), arr_per (per_mul h k)]
theorem miss_rep {js : List Job} {c : Nat} (h : Per js c) {i k : Nat} (e : lefts js (c * i) = lefts js (c * k)) (s : Nat) : miss js (c * i + s) (lefts js (c * i + s)) = miss js (c * k + s) (lefts js (c * k + s)) := by
  rw [lefts_rep h e s]
  unfold miss
  rw [Nat.add_comm (c * i) s, Nat.add_comm (c * k) s, missF_per (per_mul h i), missF_per (per_mul h k)]
theorem never_of_rep {js : List Job} {c : Nat} (h : Per js c) {i k : Nat} (hik : i < k) (e : lefts js (c * i) = lefts js (c * k)) (n : NoM js (c * k)) : IsFM js none := by
  have key : ∀ T, NoM js T := by
    intro T
    induction T with
    | zero => exact fun t ht => by omega
    | succ T ih =>
      refine ih.succ ?_
      by_cases hT : T < c * k
      · exact n T hT
      · obtain ⟨s, rfl⟩ : ∃ s, T = c * k + s := ⟨T - c * k, by omega⟩
        rw [← miss_rep h e s]
        have : c * i < c * k := Nat.mul_lt_mul_of_pos_left hik h.1
        exact ih _ (by omega)
  exact fun t => key (t + 1) t (Nat.lt_succ_self t)
/-! ### what is left grows from multiple to multiple -/
def Le (a b : List Nat) : Prop := Paired (fun x y => x ≤ y) a b
theorem Le.refl : ∀ a : List Nat, Le a a
  | [] => .nil
  | _ :: a => .cons (Nat.le_refl _) (Le.refl a)
theorem Le.trans : ∀ {a b c : List Nat}, Le a b → Le b c → Le a c
  | _, _, _, .nil, .nil => .nil
  | _, _, _, .cons h t, .cons k u => .cons (Nat.le_trans h k) (Le.trans t u)
theorem runL_le : ∀ a : List Nat, Le (runL a) a
  | [] => .nil
  | 0 :: a => .cons (Nat.le_refl _) (runL_le a)
  | (x + 1) :: a => .cons (Nat.le_succ x) (Le.refl a)
theorem runL_mono : ∀ {a b : List Nat}, Le a b → Le (runL a) (runL b)
  | _, _, .nil => .nil
  | 0 :: a, 0 :: b, .cons h t => .cons (Nat.le_refl _) (runL_mono t)
  | 0 :: a, (y + 1) :: b, .cons h t => .cons (Nat.zero_le _) ((runL_le a).trans t)
  | (x + 1) :: a, 0 :: b, .cons h t => absurd h (by omega)
  | (x + 1) :: a, (y + 1) :: b, .cons h t => .cons (by omega) t
theorem arr_mono {t : Nat} : ∀ {js : List Job} {a b : List Nat}, Le a b → Le (arr js t a) (arr js t b)
  | [], a, b, _ => by unfold arr; rw [List.zipWith_nil_left, List.zipWith_nil_left]; exact .nil
  | j :: js, _, _, .nil => .nil
  | j :: js, _, _, .cons (a := x) (b := y) h r => by
    refine .cons ?_ (arr_mono (js := js) r)
    unfold come1
    by_cases z : comes j t = true
    · rw [if_pos z, if_pos z]; omega
    · rw [if_neg z, if_neg z]; exact h
def stepN (js : List Job) (t : Nat) : Nat → List Nat → List Nat
  | 0, l => l
  | n + 1, l => nextL js (t + n) (stepN js t n l)
theorem stepN_lefts (js : List Job) (t : Nat) : ∀ n, lefts js (t + n) = stepN js t n (lefts js t)
  | 0 => rfl
  | n + 1 => by
    show nextL js (t + n) (lefts js (t + n)) = nextL js (t + n) (stepN js t n (lefts js t))
    rw [stepN_lefts js t n]
theorem stepN_mono {js : List Job} {t : Nat} {a b : List Nat} (h : Le a b) : ∀ n, Le (stepN js t n a) (stepN js t n b)
  | 0 => h
  | n + 1 => runL_mono (arr_mono (stepN_mono h n))
theorem stepN_per {js : List Job} {c : Nat} (h : Per js c) (k : Nat) (l : List Nat) : ∀ n, stepN js (c * k) n l = stepN js 0 n l
  | 0 => rfl
  | n + 1 => by
    show nextL js (c * k + n) (stepN js (c * k) n l) = nextL js (0 + n) (stepN js 0 n l)
    rw [stepN_per h k l n]
    unfold nextL
    rw [Nat.add_comm (c * k) n, arr_per (per_mul h k), Nat.zero_add]
theorem zeros_le : ∀ {n : Nat} {l : List Nat}, l.length = n → Le (List.replicate n 0) l
  | 0, [], _ => .nil
  | 0, _ :: _, h => by cases h
  | n + 1, [], h => by cases h
  | n + 1, x :: l, h => .cons (Nat.zero_le _) (zeros_le (by simpa using h))
theorem grows {js : List Job} {c : Nat} (h : Per js c) : ∀ k, Le (lefts js (c * k)) (lefts js (c * (k + 1)))
  | 0 => zeros_le (lefts_len js _)
  | k + 1 => by
    have e : ∀ k, lefts js (c * (k + 1)) = stepN js 0 c (lefts js (c * k)) := fun k => by
      rw [← stepN_per h k, ← stepN_lefts js (c * k) c, Nat.mul_succ]
    rw [e (k + 1), e k]
    exact stepN_mono (by rw [← e k]; exact grows h k) c
theorem le_sum : ∀ {a b : List Nat}, Le a b → a.sum ≤ b.sum ∧ (a ≠ b → a.sum < b.sum)
  | _, _, .nil => ⟨Nat.le_refl _, fun h => absurd rfl h⟩
  | _, _, .cons (l₁ := a) (l₂ := b) (a := x) (b := y) h t => by
    obtain ⟨h1, h2⟩ := le_sum t
    rw [List.sum_cons, List.sum_cons]
    refine ⟨by omega, fun ne => ?_⟩
    by_cases e : x = y
    · have := h2 fun z => ne (by rw [e, z])
      omega
    · omega
theorem sum_grows {js : List Job} {c : Nat} (h : Per js c) : ∀ n, (∀ k, k < n → lefts js (c * k) ≠ lefts js (c * (k + 1))) → n ≤ (lefts js (c * n)).sum
  | 0, _ => Nat.zero_le _
  | n + 1, ne => by
    have := sum_grows h n fun k hk => ne k (by omega)
    have := (le_sum (grows h n)).2 (ne n (by omega))
    omega
/-! ### without a miss no more is left than a job's rungs -/
theorem missF_none {t : Nat} : ∀ {js : List Job} {l : List Nat} {s : Nat}, l.length = js.length → missF t s js l = none → Paired (fun j x => comes j t = true → x = 0) js l
  | [], [], s, _, _ => .nil
  | [], _ :: _, s, h, _ => by cases h
  | _ :: _, [], s, h, _ => by cases h
  | j :: js, x :: l, s, hl, h => by
    have h : (if comes j t = true ∧ 0 < x then some s else missF t (s + 1) js l) = none := h
    by_cases c : comes j t = true ∧ 0 < x
    · rw [if_pos c] at h; cases h
    · rw [if_neg c] at h
      exact .cons (fun z => by by_cases e : 0 < x; exact absurd ⟨z, e⟩ c; omega) (missF_none (by simpa using hl) h)
def Fits (js : List Job) (l : List Nat) : Prop := Paired (fun (j : Job) x => x ≤ j.r) js l
theorem fits_arr {t : Nat} : ∀ {js : List Job} {l : List Nat}, Fits js l → Paired (fun j x => comes j t = true → x = 0) js l → Fits js (arr js t l)
  | _, _, .nil, .nil => .nil
  | _, _, .cons (a := j) (b := x) h t1, .cons k u => by
    refine .cons ?_ (fits_arr t1 u)
    unfold come1
    by_cases c : comes j t = true
    · rw [if_pos c, k c]; omega
    · rw [if_neg c]; exact h
theorem fits_le : ∀ {js : List Job} {a b : List Nat}, Le a b → Fits js b → Fits js a
  | _, _, _, .nil, .nil => .nil
  | _, _, _, .cons h t, .cons k u => .cons (Nat.le_trans h k) (fits_le t u)
theorem fits_zero : ∀ js : List Job, Fits js (List.replicate js.length 0)
  | [] => .nil
  | _ :: js => .cons (Nat.zero_le _) (fits_zero js)
theorem fits_at {js : List Job} : ∀ {T : Nat}, NoM js T → Fits js (lefts js T)
  | 0, _ => fits_zero js
  | T + 1, n => fits_le (runL_le _) (fits_arr (fits_at (n.mono (Nat.le_succ T))) (missF_none (lefts_len js T) (n T (Nat.lt_succ_self T))))
theorem fits_sum : ∀ {js : List Job} {l : List Nat}, Fits js l → l.sum ≤ (js.map (·.r)).sum
  | _, _, .nil => Nat.le_refl _
  | _, _, .cons h t => by
    rw [List.map_cons, List.sum_cons, List.sum_cons]
    have := fits_sum t
    omega
/-- so there are not many multiples with unlike rests -/
theorem few {js : List Job} {c : Nat} (h : Per js c) {n : Nat} (ne : ∀ k, k + 1 < n → lefts js (c * k) ≠ lefts js (c * (k + 1))) (nm : NoM js (c * (n - 1))) : n ≤ (js.map (·.r)).sum + 1 := by
  have := sum_grows h (n - 1) fun k hk => ne k (by omega)
  have := fits_sum (fits_at nm)
  omega
end K7

set_option Elab.async false
set_option linter.all false
set_option maxRecDepth 100000
set_option maxHeartbeats 4000000
namespace K7
open PySem PySem.Spec PyProof.Rows L2 GX NdefX
/-! ### settled -/
theorem jt_len {H : Hp} {ts : List V} {js : List Job} (p : TupsT H ts (js.map jv)) : ts.length = js.length := by
  have := p.length
  rw [List.length_map] at this
  exact this
theorem jobs_got {H : Hp} {ts : List V} {js : List Job} (p : TupsT H ts (js.map jv)) {i : Nat} {x : V} (h : ts[i]? = some x) : ∃ j a, js[i]? = some j ∧ x = .ref a ∧ H a = some (.tup (jv j)) := by
  obtain ⟨vs, a, hv, e, ha⟩ := tups_got p h
  rw [List.getElem?_map] at hv
  obtain ⟨j, hj, rfl⟩ := Option.map_eq_some_iff.mp hv
  exact ⟨j, a, hj, e, ha⟩
/-- a new clock, and all that stood stands -/
theorem same_k2 {c L : Addr} {H H1 H2 : Hp} (s : Same H H1) (k : K2 c L H1 H2) (nc : H c = none) (nL : H L = none) : Same H H2 := fun b o e => k b o (ne_of_none e nc) (ne_of_none e nL) (s b o e)
/-- the making of a clock: what __init__ is asked -/
theorem mk_clock {C a x dx : Addr} {H : Hp} {js : List Job} {Q : Hp → Prop} (hj : JobsT H a js) (hl : js.length ≤ 1000) (nx : H x = none) (nd : H dx = none) (ne : dx ≠ x)
    (q : ∀ H' L, Same H H' → L ≠ x → H L = none → Ck C H' x L a js 0 (lefts js 0) none → Q H') (E : XK) :
    spInit C (.ref x :: ([V.ref a] ++ [])) (upd (upd H dx (.own x)) x (.ins C dx [])) (fun v H2 => v = .non ∧ Q H2) E := by
  have s1 : Same H (upd (upd H dx (.own x)) x (.ins C dx [])) := fun b o e => by rw [upd_ne (ne_of_none e nx), upd_ne (ne_of_none e nd)]; exact e
  refine ⟨x, a, dx, js, rfl, upd_same, hj.same s1, hl, fun H' L k nL ck => ⟨rfl, q H' L (fun b o e => k b o (ne_of_none e nx) (s1 b o e)) ?_ ?_ ck⟩⟩
  · intro z; rw [z, upd_same] at nL; cases nL
  · exact s1.free nL
def keyL (l : List Nat) : List L2.Key := l.map fun n => Sum.inl ((n : Nat) : Int)
theorem keyL_v (l : List Nat) : (keyL l).map kV = nts l := by unfold keyL nts; rw [List.map_map]; rfl
theorem keyL_inj : ∀ {l m : List Nat}, keyL l = keyL m → l = m
  | [], [], _ => rfl
  | [], _ :: _, h => by cases h
  | _ :: _, [], h => by cases h
  | x :: l, y :: m, h => by
    have h : (Sum.inl ((x : Nat) : Int) : L2.Key) :: keyL l = Sum.inl ((y : Nat) : Int) :: keyL m := h
    injection h with h1 h2
    injection h1 with h1
    rw [keyL_inj h2, Int.ofNat.inj h1]
/-- the rests met at the first n multiples -/
def mets (js : List Job) (c n : Nat) : List (List L2.Key × V) := (List.range n).map fun k => (keyL (lefts js (c * k)), V.int ((c * k : Nat) : Int))
theorem mets_none {js : List Job} {c : Nat} {l : List Nat} : ∀ {n : Nat}, valV (mets js c n) (keyL l) = none ↔ ∀ k, k < n → lefts js (c * k) ≠ l
  | 0 => ⟨fun _ k hk => by omega, fun _ => rfl⟩
  | n + 1 => by
    have e : mets js c (n + 1) = mets js c n ++ [(keyL (lefts js (c * n)), V.int ((c * n : Nat) : Int))] := by
      unfold mets; rw [List.range_succ, List.map_append]; rfl
    constructor
    · intro h k hk z
      have : (mets js c (n + 1)).any (fun kv => decide (kv.1 = keyL l)) = true := by
        rw [List.any_eq_true]
        refine ⟨(keyL (lefts js (c * k)), V.int ((c * k : Nat) : Int)), List.mem_map.mpr ⟨k, List.mem_range.mpr hk, rfl⟩, ?_⟩
        exact decide_eq_true (by rw [z])
      rw [valV_any, h] at this
      cases this
    · intro h
      cases q : valV (mets js c (n + 1)) (keyL l) with
      | none => rfl
      | some v =>
        have : (mets js c (n + 1)).any (fun kv => decide (kv.1 = keyL l)) = true := by rw [valV_any, q]; rfl
        obtain ⟨p, hp, hd⟩ := List.any_eq_true.mp this
        obtain ⟨k, hk, rfl⟩ := List.mem_map.mp hp
        exact absurd (keyL_inj (of_decide_eq_true hd)) (h k (List.mem_range.mp hk))
theorem mets_put {js : List Job} {c n : Nat} (h : ∀ k, k < n → lefts js (c * k) ≠ lefts js (c * n)) : putK (mets js c n) (keyL (lefts js (c * n))) (.int ((c * n : Nat) : Int)) = mets js c (n + 1) := by
  rw [putK_new _ (mets_none.mpr h)]
  unfold mets
  rw [List.range_succ, List.map_append]
  rfl
theorem mets_len (js : List Job) (c n : Nat) : (mets js c n).length = n := by unfold mets; rw [List.length_map, List.length_range]
/-- where tick T stands between the multiples -/
theorem at_mult {c n T : Nat} (hc : 1 ≤ c) (h1 : T ≤ c * n) (h2 : c * n < T + c) : (T % c = 0 → T = c * n) ∧ (T % c ≠ 0 → T + 1 ≤ c * n ∧ c * n < T + 1 + c) := by
  constructor
  · intro h
    obtain ⟨q, rfl⟩ := Nat.dvd_of_mod_eq_zero h
    have : c * n < c * (q + 1) := by rw [Nat.mul_succ]; exact h2
    have a1 := Nat.le_of_mul_le_mul_left h1 hc
    have a2 := Nat.lt_of_mul_lt_mul_left this
    rw [show n = q by omega]
  · intro h
    refine ⟨?_, by omega⟩
    rcases Nat.lt_or_ge T (c * n) with z | z
    · omega
    · exfalso; apply h; rw [Nat.le_antisymm h1 z]; exact Nat.mul_mod_right _ _
def spSettled : Sp := fun vs H Q _ => ∃ a js, vs = [.ref a] ∧ JobsT H a js ∧ (∀ j ∈ js, JOk j) ∧ js.length ≤ 5 ∧ ∀ H' T mv x y r, Same H H' → H' T = some (.tup [mv, x, y]) → MisV H' mv r → IsFM js r → Q (.ref T) H'
theorem mis_non {H : Hp} {mv : V} {r : Option (Nat × Nat)} (h : MisV H mv r) : decide (mv = .non) = r.isNone := by
  cases r with
  | none => obtain rfl : mv = .non := h; rfl
  | some r => obtain ⟨T, rfl, _⟩ := h; exact decide_eq_false (by intro z; cases z)
theorem fm_succ (js : List Job) (T : Nat) : mNext (fm js T) (miss js T (lefts js T)) T = fm js (T + 1) := by
  show _ = (match fm js T with | some m => some m | none => (miss js T (lefts js T)).map fun i => (i, T))
  cases fm js T <;> rfl
theorem rsum {js : List Job} (h : ∀ j ∈ js, JOk j) : (js.map (·.r)).sum ≤ 12 * js.length := by
  induction js with
  | nil => exact Nat.le_refl _
  | cons j js ih =>
    have := ih fun k hk => h k (List.mem_cons_of_mem _ hk)
    have := (h j List.mem_cons_self).r2
    rw [List.map_cons, List.sum_cons, List.length_cons]
    omega
/-- a change of what is no part of the clock -/
theorem Ck.but {C c L a M : Addr} {H H' : Hp} {js : List Job} {t : Nat} {l : List Nat} {m : Option (Nat × Nat)} (h : Ck C H c L a js t l m) (k : ∀ b o, b ≠ M → H b = some o → H' b = some o) (nc : c ≠ M) (nL : L ≠ M) (nt : ∀ xs, H M ≠ some (.tup xs)) : Ck C H' c L a js t l m := by
  obtain ⟨⟨dx, mv, e, hm⟩, hl, ⟨ts, ha, pt⟩, ln⟩ := h
  have kt : ∀ b xs, H b = some (.tup xs) → H' b = some (.tup xs) := fun b xs e => k b _ (fun z => nt xs (z ▸ e)) e
  refine ⟨⟨dx, mv, k _ _ nc e, ?_⟩, k _ _ nL hl, ⟨ts, kt _ _ ha, paired_imp (fun x c ⟨b, e, hb⟩ => ⟨b, e, kt _ _ hb⟩) pt⟩, ln⟩
  cases m with
  | none => exact hm
  | some m =>
    obtain ⟨T, e, hT⟩ := hm
    exact ⟨T, e, kt _ _ hT⟩
section
variable {P : Program} {w : World} {K : PySem.W.Frag} {mg : Str → Option Value} {base : Heap}
theorem ok_settled {k : Nat} (D : Pr P K mg) : FnOk P w K mg base CX0 (k + 3) D.settled.f D.settled.fd ["jobs"] spSettled := by
  have G_Clock_init : FnOk P w K mg base CX0 (k + 1) D.Clock.f D.Clock.fd ["self", "jobs"] (spInit D.Clock.C) := ok_init D
  have G_Clock_run_tick : FnOk P w K mg base CX0 (k + 1) D.Clock_run_tick.f D.Clock_run_tick.fd ["self"] (spTick D.Clock.C) := ok_tick D
  refine D.settled.F.ok sc_settled (fun vs H Q E h => ?_) (fun cdv A outer s H vs Q E hr h => ?_)
  · obtain ⟨a, js, rfl, _⟩ := h
    rfl
  · obtain ⟨a, js, rfl, hj, hok, hjl, q⟩ := h
    obtain ⟨ts, ha, pt⟩ := id hj
    have lts := jt_len pt
    refine ⟨_, (pss_cons (ps_set (i := 1) sc_settled.nd rfl (.inl rfl) pe_int)
      (pss_cons (ps_for PassesOwn.never rfl (pi_tup (pv 0)) (pg_tup rfl (pgs_cons (pg_name (i := 2) sc_settled.nd rfl (.inl rfl)) (pgs_cons (pg_name (i := 3) sc_settled.nd rfl (.inl rfl)) (pgs_cons (pg_name (i := 2) sc_settled.nd rfl (.inl rfl)) pgs_nil)))) (pss_one (ps_set (i := 1) sc_settled.nd rfl (.inl rfl) (pe_callBfun cr_lcm (by rfl) D.g_lcm (pa_cons (pv 1) (pa_cons (pv 3) pa_nil))))))
      (pss_cons (ps_set (i := 4) sc_settled.nd rfl (.inl rfl) (pe_make D.Clock.M G_Clock_init (hr.mono (by omega)) (by rfl) D.Clock.g D.Clock.b .nil pass0 (pa_cons (pv 0) pa_nil)))
      (pss_cons (ps_set (i := 5) sc_settled.nd rfl (.inl rfl) pe_dnewT)
      (pss_cons (ps_while PassesOwn.never (pt_cmpR op_isN (pe_fld (pv 4) rfl) pe_non (nomark _)) (pss_cons (ps_if (pt_cmpR op_eq (pe_op (r := rModN) op_ModN (pe_fld (pv 4) rfl) (pv 1)) pe_int (nomark _)) (pss_cons (ps_set (i := 6) sc_settled.nd rfl (.inl rfl) (pe_callTy call_tuple_of (by rfl) D.B.tuple (by decide +kernel) (pa_cons (pe_fld (pv 4) rfl) pa_nil))) (pss_cons (ps_if (pt_cmp (pc_din (L2.hu_of hr) (pv 6) (pv 5))) (pss_one (ps_ret (pe_tup (pa_cons pe_non (pa_cons (pe_dget (L2.hu_of hr) (pv 5) (pv 6) (fun _ _ => rfl)) (pa_cons (pe_fld (pv 4) rfl) pa_nil)))))) pss_nil) (pss_one (ps_dput (L2.hu_of hr) (pv 5) (pv 6) (pe_fld (pv 4) rfl) rfl)))) pss_nil) (pss_one (ps_expr (pe_meth0 (pv 4) D.Clock.cl D.Clock_run_tick.M G_Clock_run_tick (hr.mono (by omega)) D.Clock_run_tick.b .nil pass0)))))
      (pss_one (ps_ret (pe_tup (pa_cons (pe_fld (pv 4) rfl) (pa_cons pe_non (pa_cons pe_non pa_nil))))))))))), ?_⟩
    refine ⟨.ref a, rfl, a, rfl, ⟨_, sqT ha⟩, forTt (D := { nx := _, rt := Q }) (fun i σ H' => (∃ c, (∃ c2 c3 c4 c5 c6, σ = [some (.ref a), some (.int (c : Nat)), c2, c3, c4, c5, c6]) ∧ 1 ≤ c ∧ c ≤ 24 ^ i ∧ ∀ j ∈ js.take i, j.p ∣ c) ∧ H' = H) ha
      ⟨⟨1, ⟨_, _, _, _, _, rfl⟩, by omega, by omega, fun j hj => by simp at hj⟩, rfl⟩ (fun i σ H' o p e => by rw [p.2]; exact e) ?_ ?_⟩
    · rintro i y σ H2 hy ⟨⟨c, ⟨c2, c3, c4, c5, c6, rfl⟩, h1, h2, h3⟩, rfl⟩
      obtain ⟨j, b, hj', rfl, hb⟩ := jobs_got pt hy
      have ok' := hok j (List.mem_of_getElem? hj')
      have hi : i < js.length := (List.getElem?_eq_some_iff.mp hj').1
      have hp : 24 ^ i ≤ 24 ^ 4 := Nat.pow_le_pow_right (by decide) (by omega)
      have p4e : 24 ^ 4 = 331776 := by decide
      have := ok'.p1; have := ok'.p2
      refine ⟨b, _, rfl, sqT hb, rfl, _, _, rfl, _, _, rfl, _, _, rfl, rfl, _, rfl, _, rfl, c, j.p, rfl, by omega, by omega, ⟨Nat.lcm c j.p, ⟨_, _, _, _, _, rfl⟩, Nat.lcm_pos (by omega) (by omega), ?_, ?_⟩, rfl⟩
      · refine Nat.le_trans (PySem.W.mc_lcm_le _ _) ?_
        rw [Nat.pow_succ]
        exact Nat.mul_le_mul h2 (by omega)
      · intro j2 hj2
        rw [take_get hj'] at hj2
        rcases List.mem_append.mp hj2 with z | z
        · exact Nat.dvd_trans (h3 j2 z) (Nat.dvd_lcm_left _ _)
        · rw [List.mem_singleton.mp z]; exact Nat.dvd_lcm_right _ _
    · rintro σ H2 ⟨⟨c, ⟨c2, c3, c4, c5, c6, rfl⟩, h1, h2, h3⟩, rfl⟩
      rw [lts, List.take_length] at h3
      have per : Per js c := ⟨h1, h3⟩
      refine ⟨_, rfl, fun x dx nx ndx nex => mk_clock hj (by omega) nx ndx nex (fun H3 L s3 nLx nL0 ck => ?_) _⟩
      refine fun M nM => ?_
      have nMx : M ≠ x := fun z => by obtain ⟨⟨_, _, e, _⟩, _⟩ := ck; rw [z, e] at nM; cases nM
      have nML : M ≠ L := fun z => by rw [z, ck.lst] at nM; cases nM
      have sM := same_upd nM (o := .dT [])
      have ckM := ck.same sM
      have sHM := s3.trans sM
      have nMH := s3.free nM
      have eM : upd H3 M (.dT []) M = some (.dT []) := upd_same
      generalize upd H3 M (.dT []) = H4 at ckM eM sM sHM
      refine ⟨fun m σ H' => ∃ T n c2 c3 c6, m = c * ((js.map (·.r)).sum + 2) - T ∧ T ≤ c * ((js.map (·.r)).sum + 2) ∧ σ = [some (.ref a), some (.int (c : Nat)), c2, c3, some (.ref x), some (.ref M), c6] ∧ Same H2 H' ∧ Ck D.Clock.C H' x L a js T (lefts js T) (fm js T) ∧ H' M = some (.dT (mets js c n)) ∧ T ≤ c * n ∧ c * n < T + c ∧ (∀ k m, k < m → m < n → lefts js (c * k) ≠ lefts js (c * m)), ⟨_, 0, 0, _, _, _, rfl, by omega, rfl, sHM, ckM, eM, by omega, by omega, fun k m _ h => by omega⟩, ?_⟩
      rintro m σ H5 ⟨T, n, c2, c3, c6, rfl, hB, rfl, s5, ck5, eM5, t1, t2, ne⟩
      obtain ⟨⟨dx, mv, hx5, hm5⟩, hL5, hj5, ln5⟩ := id ck5
      have nM : NoAttr K D.Clock.C "missed" := D.Clock.nf _ (by simp)
      have nT : NoAttr K D.Clock.C "tick" := D.Clock.nf _ (by simp)
      have nL : NoAttr K D.Clock.C "left" := D.Clock.nf _ (by simp)
      refine ⟨_, rfl, x, D.Clock.C, dx, _, _, rfl, hx5, D.Clock.cl, nM, cf_missed _ _ _ _, rfl, _, rfl, ?_⟩
      cases hf : fm js T with
      | some r =>
        rw [hf] at hm5
        refine iteFq ((mis_non hm5).trans rfl) ⟨_, rfl, x, D.Clock.C, dx, _, _, rfl, hx5, D.Clock.cl, nM, cf_missed _ _ _ _, by show 3 ≤ sizeLine; decide, fun U nU => ?_⟩
        have sU := same_upd nU (o := .tup [mv, .non, .non])
        exact q _ U mv .non .non (some r) (s5.trans sU) upd_same (hm5.same sU) (fm_some (i := r.1) (t := r.2) hf).2
      | none =>
        rw [hf] at hm5
        obtain rfl : mv = .non := hm5
        have nm : NoM js T := fm_none.mp hf
        have hn : n ≤ (js.map (·.r)).sum + 1 := few per (fun k hk => ne k (k + 1) (Nat.lt_succ_self k) hk) (nm.mono (by
          cases n with
          | zero => exact Nat.zero_le _
          | succ n => rw [Nat.add_sub_cancel]; rw [Nat.mul_succ] at t2; omega))
        have hTB : T < c * ((js.map (·.r)).sum + 2) := by
          have := Nat.mul_le_mul_left c hn
          rw [Nat.mul_succ]
          omega
        obtain ⟨am1, am2⟩ := at_mult h1 t1 t2
        refine iteTq (decide_eq_true rfl) ⟨fun σ' H' => ∃ m', m' < c * ((js.map (·.r)).sum + 2) - T ∧ ∃ T n c2 c3 c6, m' = c * ((js.map (·.r)).sum + 2) - T ∧ T ≤ c * ((js.map (·.r)).sum + 2) ∧ σ' = [some (.ref a), some (.int (c : Nat)), c2, c3, some (.ref x), some (.ref M), c6] ∧ Same H2 H' ∧ Ck D.Clock.C H' x L a js T (lefts js T) (fm js T) ∧ H' M = some (.dT (mets js c n)) ∧ T ≤ c * n ∧ c * n < T + c ∧ (∀ k m, k < m → m < n → lefts js (c * k) ≠ lefts js (c * m)), fun _ _ h => h, ?_⟩
        refine ⟨_, rfl, x, D.Clock.C, dx, _, _, rfl, hx5, D.Clock.cl, nT, cf_tick _ _ _ _, _, rfl, T, c, rfl, rfl, h1, rfl, _, rfl, ?_⟩
        by_cases h0 : T % c = 0
        · have eT := am1 h0
          refine iteTq (decide_eq_true (by rw [h0]; rfl)) ⟨_, rfl, x, D.Clock.C, dx, _, _, rfl, hx5, D.Clock.cl, nL, cf_left _ _ _ _, L, _, rfl, .inl ⟨sqL hL5, fun U nU => ?_⟩⟩
          have sU := same_upd nU (o := .tup (nts (lefts js T)))
          have eU : (upd H5 U (.tup (nts (lefts js T)))) U = some (.tup (nts (lefts js T))) := upd_same
          have eM6 := sU _ _ eM5
          have s6 := s5.trans sU
          have ck6 := ck5.same sU
          have hx6 := sU _ _ hx5
          generalize upd H5 U (.tup (nts (lefts js T))) = H6 at eU eM6 s6 ck6 hx6 ⊢
          have eU' : H6 U = some (.tup ((keyL (lefts js T)).map kV)) := by rw [keyL_v]; exact eU
          refine ⟨_, rfl, _, rfl, M, _, rfl, DGet.t eM6 eU', _, rfl, ?_⟩
          cases hv : valV (mets js c n) (keyL (lefts js T)) with
          | some v =>
            refine iteTq rfl ⟨_, rfl, _, rfl, M, v, rfl, by rw [← hv]; exact DGet.t eM6 eU', _, rfl, x, D.Clock.C, dx, _, _, rfl, hx6, D.Clock.cl, nT, cf_tick _ _ _ _, by show 3 ≤ sizeLine; decide, fun W nW => ?_⟩
            obtain ⟨k, hk, hkl⟩ : ∃ k, k < n ∧ lefts js (c * k) = lefts js (c * n) := by
              rw [← eT]
              exact Classical.byContradiction fun z => by
                have := (mets_none (js := js) (c := c) (l := lefts js T) (n := n)).mpr fun k hk e => z ⟨k, hk, e⟩
                rw [hv] at this; cases this
            exact q _ W .non _ _ none (s6.trans (same_upd nW)) upd_same rfl (never_of_rep per hk hkl (by rw [← eT]; exact nm))
          | none =>
            have hne : ∀ k, k < n → lefts js (c * k) ≠ lefts js (c * n) := by rw [← eT]; exact mets_none.mp hv
            have hput : putK (mets js c n) (keyL (lefts js T)) (.int (T : Nat)) = mets js c (n + 1) := by rw [eT]; exact mets_put hne
            refine iteFq rfl ⟨_, rfl, x, D.Clock.C, dx, _, _, rfl, hx6, D.Clock.cl, nT, cf_tick _ _ _ _, _, rfl, _, rfl, M, _, rfl, DPut.t eM6 eU' (by rw [mets_len, sizeLine_eq]; have := rsum hok; omega), ?_⟩
            rw [hput]
            have kM : ∀ b o, b ≠ M → H6 b = some o → (upd H6 M (.dT (mets js c (n + 1)))) b = some o := fun b o hb e => by rw [upd_ne hb]; exact e
            have s7 : Same H2 (upd H6 M (.dT (mets js c (n + 1)))) := fun b o e => kM b o (ne_of_none e nMH) (s6 b o e)
            have ck7 := ck6.but kM nMx.symm nML.symm (fun xs z => by rw [eM6] at z; cases z)
            have hx7 := kM _ _ nMx.symm hx6
            have eM7 : (upd H6 M (.dT (mets js c (n + 1)))) M = some (.dT (mets js c (n + 1))) := upd_same
            generalize upd H6 M (.dT (mets js c (n + 1))) = H7 at s7 ck7 hx7 eM7 ⊢
            exact ⟨_, rfl, x, dx, _, rfl, hx7, cf_no _ _ _ _ (by decide +kernel) (by decide +kernel) (by decide +kernel) (by decide +kernel), x, L, a, js, T, _, _, rfl, ck7, hok, by omega, fun H6 k6 ck6 => ⟨_, by omega, T + 1, n + 1, _, _, _, rfl, by omega, rfl, same_k2 s7 k6 nx nL0, by rw [← fm_succ]; exact ck6, k6 _ _ nMx nML eM7, by rw [Nat.mul_succ, ← eT]; omega, by rw [Nat.mul_succ, ← eT]; omega, fun k m h1 h2 => by
              by_cases e : m = n
              · rw [e]; exact hne k (by omega)
              · exact ne k m h1 (by omega)⟩⟩
        · obtain ⟨b1, b2⟩ := am2 h0
          refine iteFq (decide_eq_false (fun z => h0 (by injection z with z; exact_mod_cast z))) ?_
          exact ⟨_, rfl, x, dx, _, rfl, hx5, cf_no _ _ _ _ (by decide +kernel) (by decide +kernel) (by decide +kernel) (by decide +kernel), x, L, a, js, T, _, _, rfl, ck5, hok, by omega, fun H6 k6 ck6 => ⟨_, by omega, T + 1, n, _, _, _, rfl, by omega, rfl, same_k2 s5 k6 nx nL0, by rw [← fm_succ]; exact ck6, k6 _ _ nMx nML eM5, b1, b2, ne⟩⟩
end
end K7

set_option Elab.async false
set_option linter.all false
set_option maxRecDepth 100000
set_option maxHeartbeats 4000000
namespace K7
open PySem PySem.Spec PyProof.Rows L2 GX NdefX
/-! ### who_runs, first_miss -/
/-- [e for _ in range(n)], where e changes what stands -/
theorem lcRngM {n : Nat} {g : TG} {te : TE} {vs : List Nat} {σ : L2.St} {H1 : Hp} {Q : Addr → Hp → Prop} (Iv : Addr → Nat → List V → Hp → Prop) (hn : n ≤ 4000)
    (h0 : ∀ D, H1 D = none → Iv D 0 [] (upd H1 D (.lst []))) (hD : ∀ D i us H, Iv D i us H → H D = some (.lst us) ∧ us.length = i)
    (turn : ∀ (D : Addr) (i : Nat) (us : List V) (H : Hp) (Qk : VK) (Qn : Hp → Prop), i < n → H1 D = none → Iv D i us H → (∀ y H4, H4 D = some (.lst us) → Iv D (i + 1) (us ++ [y]) (upd H4 D (.lst (us ++ [y]))) → Qk y H4) →
      g (.int (i : Nat)) (wipe σ vs) H fun σ2 H2 => wipe σ2 vs = wipe σ vs ∧ tYes σ2 H2 fun b H3 => if b = true then te σ2 H3 Qk else Qn H3)
    (done : ∀ D us H, H1 D = none → Iv D n us H → Q D H) : LcD (Itr 0 n) g tYes te vs σ H1 Q := by
  refine fun D nD => ⟨fun i m H => m = n - i ∧ i ≤ n ∧ ∃ us, Iv D i us H, ⟨n, rfl, Nat.zero_le _, [], h0 D nD⟩, ?_⟩
  rintro i m H ⟨rfl, hi, us, iv⟩
  obtain ⟨eD, hl⟩ := hD D i us H iv
  by_cases hlt : i < n
  · refine .inr ⟨hlt, fun H' => ∃ us, Iv D (i + 1) us H', fun H' p => ⟨n - (i + 1), by omega, rfl, hlt, p⟩, fun x H' y => ?_⟩
    obtain ⟨rfl, rfl⟩ := y
    rw [Int.zero_add]
    exact turn D i us _ _ _ hlt nD iv fun y H4 e4 iv4 => ⟨us, e4, by rw [hl, sizeLine_eq]; omega, _, iv4⟩
  · obtain rfl : i = n := by omega
    exact .inl ⟨Nat.le_refl _, done D us H nD iv⟩
def whoT (js : List Job) (n : Nat) : List V := (List.range n).map fun i => .int (whoV (whoR js i))
theorem whoT_succ (js : List Job) (n : Nat) : whoT js (n + 1) = whoT js n ++ [.int (whoV (whoR js n))] := by
  unfold whoT; rw [List.range_succ, List.map_append]; rfl
theorem whoT_len (js : List Job) (n : Nat) : (whoT js n).length = n := by unfold whoT; rw [List.length_map, List.length_range]
def spWho (CN CM : Addr) : Sp := fun vs H Q E => ∃ x j, ∃ t : Int, vs = [x, .int t] ∧ JbAt H x j ∧ Chkd CN CM E H (fun js => if 0 ≤ t then t ≤ 4000 ∧ ∀ T H', Same H H' → H' T = some (.tup (whoT js t.toNat)) → Q (.ref T) H' else Rai E CN H [("word", .str "ticks")]) (chk j)
def spFirst (CN CM : Addr) : Sp := fun vs H Q E => ∃ x j, vs = [x] ∧ JbAt H x j ∧ Chkd CN CM E H (fun js => ∀ mv H' r, Same H H' → MisV H' mv r → IsFM js r → Q mv H') (chk j)
section
variable {P : Program} {w : World} {K : PySem.W.Frag} {mg : Str → Option Value} {base : Heap}
theorem ok_first {k : Nat} (D : Pr P K mg) : FnOk P w K mg base (CX P w) (k + 4) D.first_miss.f D.first_miss.fd ["jobs"] (spFirst D.BadNumber.C D.TooMany.C) := by
  have G_check_jobs : FnOk P w K mg base (CX P w) (k + 3) D.check_jobs.f D.check_jobs.fd ["jobs"] (spCheck D.BadNumber.C D.TooMany.C) := ok_check_jobs D
  have G_settled : FnOk P w K mg base CX0 (k + 3) D.settled.f D.settled.fd ["jobs"] spSettled := ok_settled D
  refine D.first_miss.F.okX sc_first_miss (fun vs H Q E h => ?_) (fun cdv A outer s H vs Q E hr h => ?_)
  · obtain ⟨x, j, rfl, _⟩ := h
    rfl
  · obtain ⟨x, j, rfl, hj, q⟩ := h
    refine ⟨_, (pss_one (ps_ret (pe_ix (r := rIxT K) ix_tup (pe_call G_settled hr (by rfl) D.settled.g D.settled.F.kp D.settled.b .nil pass0 (pa_cons (pe_call G_check_jobs hr (by rfl) D.check_jobs.g D.check_jobs.F.kp D.check_jobs.b .nil (passes_call (takes_of rfl rfl rfl rfl) (fun _ _ _ _ h => h)) (pa_cons (pv 0) pa_nil)) pa_nil)) pe_int (fun _ _ => rfl)))), ?_⟩
    refine ⟨x, rfl, x, j, rfl, hj, ?_⟩
    cases ec : chk j with
    | num => rw [ec] at q; exact q
    | many => rw [ec] at q; exact q
    | ok js =>
      rw [ec] at q
      obtain ⟨hl, hok⟩ := chk_ok ec
      refine fun a H1 s1 jt => ⟨a, js, rfl, jt, hok, hl, fun H2 T mv x y r s2 eT hm fm => ?_⟩
      exact ⟨T, _, 0, mv, rfl, rfl, sqT eT, atI_nat (j := 0) rfl, q mv H2 r (s1.trans s2) hm fm⟩
end
end K7

set_option Elab.async false
set_option linter.all false
set_option maxRecDepth 100000
set_option maxHeartbeats 4000000
namespace K7
open PySem PySem.Spec L2
/-! ### how long the jobs of a place take -/
def jobAt (js : List Job) (i : Nat) : Job := js.getD i default
theorem jobAt_get {js : List Job} {i : Nat} {j : Job} (h : js[i]? = some j) : jobAt js i = j := by
  unfold jobAt
  rw [List.getD_eq_getElem?_getD, h]
  rfl
def ends (js : List Job) (pl : Nat) : Nat → List Int
  | 0 => []
  | t + 1 => if whoR js t = some pl ∧ (lefts js (t + 1))[pl]? = some 0 then ends js pl t ++ [((t + 1 : Nat) : Int) - ((jobAt js pl).o : Nat) - (((ends js pl t).length : Nat) : Int) * ((jobAt js pl).p : Nat)] else ends js pl t
theorem ends_len1 (js : List Job) (pl t : Nat) : (ends js pl (t + 1)).length ≤ (ends js pl t).length + 1 := by
  show (if _ then _ else _ : List Int).length ≤ _
  split
  · rw [List.length_append]; exact Nat.le_refl _
  · omega
theorem run_at : ∀ (b : List Nat) (i x : Nat), b[i]? = some x → (runW b = some i → 0 < x ∧ (runL b)[i]? = some (x - 1)) ∧ (runW b ≠ some i → (runL b)[i]? = some x)
  | [], i, x, h => by simp at h
  | 0 :: b, 0, x, h => by
    obtain rfl : 0 = x := by simpa using h
    refine ⟨fun e => ?_, fun _ => rfl⟩
    have e : (runW b).map (· + 1) = some 0 := e
    obtain ⟨y, _, z⟩ := Option.map_eq_some_iff.mp e
    omega
  | 0 :: b, i + 1, x, h => by
    obtain ⟨h1, h2⟩ := run_at b i x (by simpa using h)
    refine ⟨fun e => ?_, fun e => ?_⟩
    · have e : (runW b).map (· + 1) = some (i + 1) := e
      obtain ⟨y, hy, z⟩ := Option.map_eq_some_iff.mp e
      obtain rfl : y = i := by omega
      exact h1 hy
    · exact h2 fun z => e (by show (runW b).map (· + 1) = some (i + 1); rw [z]; rfl)
  | (y + 1) :: b, 0, x, h => by
    obtain rfl : y + 1 = x := by simpa using h
    exact ⟨fun _ => ⟨by omega, rfl⟩, fun e => absurd rfl e⟩
  | (y + 1) :: b, i + 1, x, h => by
    refine ⟨fun e => ?_, fun _ => by show (y :: b)[i + 1]? = some x; simpa using h⟩
    have e : some 0 = some (i + 1) := e
    cases e
theorem paired_ix {α β : Type} {F : α → β → Prop} : ∀ {xs : List α} {ys : List β}, Paired F xs ys → ∀ {i : Nat} {x : α} {y : β}, xs[i]? = some x → ys[i]? = some y → F x y
  | _, _, .nil, i, x, y, h, _ => by simp at h
  | _, _, .cons f t, 0, x, y, h, k => by
    cases h; cases k; exact f
  | _, _, .cons f t, i + 1, x, y, h, k => paired_ix t (by simpa using h) (by simpa using k)
/-- what is run of the job at pl -/
def Runs (js : List Job) (pl T run : Nat) : Prop := ∃ x, (lefts js T)[pl]? = some x ∧ ((x = 0 ∧ run = 0) ∨ (0 < x ∧ run + x = (jobAt js pl).r))
theorem runs_zero {js : List Job} {pl : Nat} (h : pl < js.length) : Runs js pl 0 0 := ⟨0, by show (List.replicate js.length 0)[pl]? = some 0; rw [List.getElem?_replicate, if_pos h], .inl ⟨rfl, rfl⟩⟩
/-- ahead of the run -/
theorem runs_mid {js : List Job} {pl T run : Nat} {j : Job} (hj : js[pl]? = some j) (hr : 1 ≤ j.r) (hm : miss js T (lefts js T) = none) (h : Runs js pl T run) : ∃ b, (arr js T (lefts js T))[pl]? = some b ∧ ((b = 0 ∧ run = 0) ∨ (0 < b ∧ run + b = j.r)) := by
  obtain ⟨x, hx, h⟩ := h
  rw [jobAt_get hj] at h
  refine ⟨_, arr_get hj hx, ?_⟩
  have c0 := paired_ix (missF_none (lefts_len js T) hm) hj hx
  unfold come1
  by_cases c : comes j T = true
  · rw [if_pos c]
    have := c0 c
    omega
  · rw [if_neg c]; exact h
theorem runs_next {js : List Job} {pl T run : Nat} {j : Job} (hj : js[pl]? = some j) (hr : 1 ≤ j.r) (hm : miss js T (lefts js T) = none) (h : Runs js pl T run) :
    (whoR js T = some pl → (run + 1 = j.r → ends js pl (T + 1) = ends js pl T ++ [((T + 1 : Nat) : Int) - (j.o : Nat) - (((ends js pl T).length : Nat) : Int) * (j.p : Nat)] ∧ Runs js pl (T + 1) 0) ∧ (run + 1 ≠ j.r → ends js pl (T + 1) = ends js pl T ∧ Runs js pl (T + 1) (run + 1))) ∧
    (whoR js T ≠ some pl → ends js pl (T + 1) = ends js pl T ∧ Runs js pl (T + 1) run) := by
  obtain ⟨b, hb, hbr⟩ := runs_mid hj hr hm h
  obtain ⟨r1, r2⟩ := run_at _ pl b hb
  have ej := jobAt_get hj
  have un : ends js pl (T + 1) = if whoR js T = some pl ∧ (lefts js (T + 1))[pl]? = some 0 then ends js pl T ++ [((T + 1 : Nat) : Int) - ((jobAt js pl).o : Nat) - (((ends js pl T).length : Nat) : Int) * ((jobAt js pl).p : Nat)] else ends js pl T := rfl
  refine ⟨fun e => ?_, fun e => ?_⟩
  · obtain ⟨b0, hn⟩ := r1 e
    have hn : (lefts js (T + 1))[pl]? = some (b - 1) := hn
    refine ⟨fun er => ?_, fun er => ?_⟩
    · have b1 : b - 1 = 0 := by omega
      rw [b1] at hn
      refine ⟨?_, 0, hn, .inl ⟨rfl, rfl⟩⟩
      rw [un, if_pos ⟨e, hn⟩, ej]
    · refine ⟨?_, b - 1, hn, .inr ⟨by omega, by rw [ej]; omega⟩⟩
      rw [un, if_neg]
      rintro ⟨_, z⟩
      rw [hn] at z
      have := Option.some.inj z
      omega
  · have hn : (lefts js (T + 1))[pl]? = some b := r2 e
    refine ⟨?_, b, hn, ?_⟩
    · rw [un, if_neg (fun z => e z.1)]
    · rw [ej]; exact hbr
/-! ### how many there are -/
def cameN (j : Job) (T : Nat) : Nat := T / j.p + (if j.o < T % j.p then 1 else 0)
theorem cameN_succ {j : Job} (h : JOk j) (T : Nat) : cameN j (T + 1) = cameN j T + (if comes j T = true then 1 else 0) := by
  have hp := h.p1
  have ho := h.o1
  have e := Nat.div_add_mod T j.p
  have hs := Nat.mod_lt T (show 0 < j.p by omega)
  have hc : comes j T = true ↔ T % j.p = j.o := by unfold comes; rw [beq_iff_eq]
  unfold cameN
  generalize T / j.p = q at e ⊢
  generalize hsm : T % j.p = s at e hs hc ⊢
  by_cases z : s + 1 < j.p
  · have e2 : T + 1 = j.p * q + (s + 1) := by omega
    have d : (T + 1) / j.p = q := by rw [e2, Nat.mul_add_div (by omega), Nat.div_eq_of_lt z, Nat.add_zero]
    have m : (T + 1) % j.p = s + 1 := by rw [e2, Nat.mul_add_mod, Nat.mod_eq_of_lt z]
    rw [d, m]
    by_cases c : comes j T = true
    · rw [if_pos c]; have := hc.mp c; rw [if_pos (by omega), if_neg (by omega)]
    · rw [if_neg c]
      have : s ≠ j.o := fun y => c (hc.mpr y)
      by_cases o : j.o < s
      · rw [if_pos (by omega), if_pos o]
      · rw [if_neg (by omega), if_neg o]
  · have e2 : T + 1 = j.p * (q + 1) := by rw [Nat.mul_succ]; omega
    have d : (T + 1) / j.p = q + 1 := by rw [e2, Nat.mul_div_cancel_left _ (by omega)]
    have m : (T + 1) % j.p = 0 := by rw [e2, Nat.mul_mod_right]
    rw [d, m, if_neg (by omega)]
    by_cases c : comes j T = true
    · rw [if_pos c]; have := hc.mp c; rw [if_neg (by omega)]
    · rw [if_neg c]
      have : s ≠ j.o := fun y => c (hc.mpr y)
      rw [if_pos (by omega)]
def Cnt (js : List Job) (pl T : Nat) : Prop := ∃ x, (lefts js T)[pl]? = some x ∧ cameN (jobAt js pl) T = (ends js pl T).length + (if 0 < x then 1 else 0)
theorem cnt_at {js : List Job} {pl : Nat} {j : Job} (hj : js[pl]? = some j) (ok : JOk j) : ∀ {T : Nat}, NoM js T → Cnt js pl T
  | 0, _ => ⟨0, by show (List.replicate js.length 0)[pl]? = some 0; rw [List.getElem?_replicate, if_pos (List.getElem?_eq_some_iff.mp hj).1], by
      rw [jobAt_get hj]; unfold cameN; rw [Nat.zero_div, Nat.zero_mod, if_neg (by omega)]; rfl⟩
  | T + 1, n => by
    obtain ⟨x, hx, h⟩ := cnt_at hj ok (n.mono (Nat.le_succ T))
    rw [jobAt_get hj] at h
    have hm := n T (Nat.lt_succ_self T)
    have c0 := paired_ix (missF_none (lefts_len js T) hm) hj hx
    have hr := ok.r1
    have hb := arr_get (t := T) hj hx
    have ej := jobAt_get hj
    have hA : cameN j (T + 1) = (ends js pl T).length + (if 0 < come1 T j x then 1 else 0) := by
      rw [cameN_succ ok, h]
      unfold come1
      by_cases c : comes j T = true
      · rw [if_pos c, if_pos c, c0 c, if_neg (by omega), if_pos (by omega)]
      · rw [if_neg c, if_neg c]; rfl
    obtain ⟨r1, r2⟩ := run_at _ pl _ hb
    have un : ends js pl (T + 1) = if whoR js T = some pl ∧ (lefts js (T + 1))[pl]? = some 0 then ends js pl T ++ [((T + 1 : Nat) : Int) - ((jobAt js pl).o : Nat) - (((ends js pl T).length : Nat) : Int) * ((jobAt js pl).p : Nat)] else ends js pl T := rfl
    by_cases e : whoR js T = some pl
    · obtain ⟨b0, hn⟩ := r1 e
      have hn : (lefts js (T + 1))[pl]? = some (come1 T j x - 1) := hn
      refine ⟨_, hn, ?_⟩
      rw [ej, hA, if_pos b0]
      by_cases z : come1 T j x - 1 = 0
      · rw [un, if_pos ⟨e, by rw [hn, z]⟩, List.length_append, if_neg (by omega)]; rfl
      · rw [un, if_neg (fun y => z (by have := y.2; rw [hn] at this; exact Option.some.inj this)), if_pos (by omega)]
    · refine ⟨_, r2 e, ?_⟩
      rw [ej, hA, un, if_neg (show ¬(whoR js T = some pl ∧ (lefts js (T + 1))[pl]? = some 0) from fun z => e z.1)]
theorem ends_many {js : List Job} {pl : Nat} {j : Job} (hj : js[pl]? = some j) (ok : JOk j) {T n : Nat} (nm : NoM js T) (h : j.p * (n + 1) ≤ T) : n ≤ (ends js pl T).length := by
  obtain ⟨x, hx, e⟩ := cnt_at hj ok nm
  rw [jobAt_get hj] at e
  have : n + 1 ≤ T / j.p := (Nat.le_div_iff_mul_le (by have := ok.p1; omega)).mpr (by rw [Nat.mul_comm]; exact h)
  have : T / j.p ≤ cameN j T := Nat.le_add_right _ _
  have : (if 0 < x then 1 else 0) ≤ 1 := by split <;> omega
  omega
/-- what job_ends tells -/
def IsEnds (js : List Job) (pl many : Nat) (r : List Int) : Prop := ∃ T, NoM js T ∧ (∀ t, t < T → (ends js pl t).length < many) ∧ (many ≤ (ends js pl T).length ∨ miss js T (lefts js T) ≠ none) ∧ r = ends js pl T
theorem IsEnds.uniq {js : List Job} {pl many : Nat} {r s : List Int} (h : IsEnds js pl many r) (k : IsEnds js pl many s) : r = s := by
  obtain ⟨T, h1, h2, h3, rfl⟩ := h
  obtain ⟨S, k1, k2, k3, rfl⟩ := k
  rcases Nat.lt_trichotomy T S with z | z | z
  · rcases h3 with y | y
    · have := k2 T z; omega
    · exact absurd (k1 T z) y
  · rw [z]
  · rcases k3 with y | y
    · have := h2 S z; omega
    · exact absurd (h1 S z) y
end K7

set_option Elab.async false
set_option linter.all false
set_option maxRecDepth 100000
set_option maxHeartbeats 4000000
namespace K7
open PySem PySem.Spec PyProof.Rows L2 GX NdefX
/-! ### job_ends -/
def vInts (l : List Int) : List V := l.map V.int
def spEnds (CN CM : Addr) : Sp := fun vs H Q E => ∃ x j, ∃ (pl many : Int), vs = [x, .int pl, .int many] ∧ JbAt H x j ∧ Chkd CN CM E H (fun js => if 0 ≤ pl ∧ pl < js.length then (if 0 ≤ many ∧ many ≤ 200 then ∀ T H' r, Same H H' → H' T = some (.tup (vInts r)) → IsEnds js pl.toNat many.toNat r → Q (.ref T) H' else Rai E CN H [("word", .str "many")]) else Rai E CN H [("word", .str "place")]) (chk j)
def bnd (j : Job) (many : Nat) : Option (Nat × Nat) → Nat
  | some (_, m) => m
  | none => j.p * (many + 1)
theorem whoV_eq {o : Option Nat} {n : Nat} : decide (V.int (whoV o) = V.int ((n : Nat) : Int)) = decide (o = some n) := by
  refine decide_eq_decide.mpr ⟨fun h => ?_, fun h => by rw [h]; rfl⟩
  injection h with h
  cases o with
  | none => have h : (-1 : Int) = (n : Nat) := h; omega
  | some i => have h : ((i : Nat) : Int) = (n : Nat) := h; rw [show i = n by omega]
section
variable {P : Program} {w : World} {K : PySem.W.Frag} {mg : Str → Option Value} {base : Heap}
theorem ok_ends {k : Nat} (D : Pr P K mg) : FnOk P w K mg base (CX P w) (k + 4) D.job_ends.f D.job_ends.fd ["jobs", "place", "many"] (spEnds D.BadNumber.C D.TooMany.C) := by
  have G_check_jobs : FnOk P w K mg base (CX P w) (k + 3) D.check_jobs.f D.check_jobs.fd ["jobs"] (spCheck D.BadNumber.C D.TooMany.C) := ok_check_jobs D
  have G_check_place : FnOk P w K mg base (CX P w) (k + 3) D.check_place.f D.check_place.fd ["jobs", "place"] (spPlace D.BadNumber.C) := ok_place D
  have G_is_whole : FnOk P w K mg base CX0 (k + 1) D.is_whole.f D.is_whole.fd ["value", "least", "most"] spWhole := ok_whole D
  have GX_BadNumber : FnOk P w K mg base CX0 (k + 1) D.BadNumber.f D.BadNumber.fd ["self", "word"] (spWord D.BadNumber.C) := ok_word D
  have G_settled : FnOk P w K mg base CX0 (k + 3) D.settled.f D.settled.fd ["jobs"] spSettled := ok_settled D
  have G_Clock_init : FnOk P w K mg base CX0 (k + 1) D.Clock.f D.Clock.fd ["self", "jobs"] (spInit D.Clock.C) := ok_init D
  have G_Clock_run_tick : FnOk P w K mg base CX0 (k + 1) D.Clock_run_tick.f D.Clock_run_tick.fd ["self"] (spTick D.Clock.C) := ok_tick D
  refine D.job_ends.F.okX sc_job_ends (fun vs H Q E h => ?_) (fun cdv A outer s H vs Q E hr h => ?_)
  · obtain ⟨x, j, pl, many, rfl, _⟩ := h
    rfl
  · obtain ⟨x, j, pl, many, rfl, hj, q⟩ := h
    refine ⟨_, (pss_cons (ps_set (i := 3) sc_job_ends.nd rfl (.inl rfl) (pe_call G_check_jobs hr (by rfl) D.check_jobs.g D.check_jobs.F.kp D.check_jobs.b .nil (passes_call (takes_of rfl rfl rfl rfl) (fun _ _ _ _ h => h)) (pa_cons (pv 0) pa_nil)))
      (pss_cons (ps_expr (pe_call G_check_place hr (by rfl) D.check_place.g D.check_place.F.kp D.check_place.b .nil (passes_call (takes_of rfl rfl rfl rfl) (fun _ _ _ _ h => h)) (pa_cons (pv 3) (pa_cons (pv 1) pa_nil))))
      (pss_cons (ps_if (pt_not (pt_val (pe_call G_is_whole (hr.mono (by omega)) (by rfl) D.is_whole.g D.is_whole.F.kp D.is_whole.b .nil pass0 (pa_cons (pv 2) (pa_cons pe_int (pa_cons pe_int pa_nil)))))) (pss_one (ps_raise rfl (takes_of rfl rfl rfl rfl) (pmk_oex D.BadNumber.T.O D.BadNumber.T.iC D.BadNumber.T.tI GX_BadNumber (hr.mono (by omega)) D.BadNumber.b .nil pass0 (by rfl) D.BadNumber.g (pa_cons pe_str pa_nil)))) pss_nil)
      (pss_cons (ps_asg (pe_call G_settled hr (by rfl) D.settled.g D.settled.F.kp D.settled.b .nil pass0 (pa_cons (pv 3) pa_nil)) (pg_tup rfl (pgs_cons (pg_name (i := 4) sc_job_ends.nd rfl (.inl rfl)) (pgs_cons (pg_name (i := 5) sc_job_ends.nd rfl (.inl rfl)) (pgs_cons (pg_name (i := 5) sc_job_ends.nd rfl (.inl rfl)) pgs_nil)))))
      (pss_cons (ps_asg (pe_ix (r := rIxT K) ix_tup (pv 3) (pv 1) (fun _ _ => rfl)) (pg_tup rfl (pgs_cons (pg_name (i := 6) sc_job_ends.nd rfl (.inl rfl)) (pgs_cons (pg_name (i := 7) sc_job_ends.nd rfl (.inl rfl)) (pgs_cons (pg_name (i := 8) sc_job_ends.nd rfl (.inl rfl)) pgs_nil)))))
      (pss_cons (ps_set (i := 9) sc_job_ends.nd rfl (.inl rfl) (pe_make D.Clock.M G_Clock_init (hr.mono (by omega)) (by rfl) D.Clock.g D.Clock.b .nil pass0 (pa_cons (pv 3) pa_nil)))
      (pss_cons (ps_set (i := 10) sc_job_ends.nd rfl (.inl rfl) (pe_lst pa_nil))
      (pss_cons (ps_set (i := 11) sc_job_ends.nd rfl (.inl rfl) pe_int)
      (pss_cons (ps_while (by passes_own) (PW.pt (pw_and (pt_cmpR op_lt (pe_callB call_len (by rfl) D.B.len PySem.boot_len (pa_cons (pv 10) pa_nil)) (pv 2) (nomark _)) (pw_and1 (PW.pt (pw_or (pt_cmpR op_isN (pv 4) pe_non (nomark _)) (pw_or1 (pt_cmpR op_lt (pe_fld (pv 9) rfl) (pe_ix (r := rIxT K) ix_tup (pv 4) pe_int (fun _ _ => rfl)) (nomark _)))))))) (pss_one (ps_if (pt_cmpR op_eq (pe_meth0 (pv 9) D.Clock.cl D.Clock_run_tick.M G_Clock_run_tick (hr.mono (by omega)) D.Clock_run_tick.b .nil pass0) (pv 1) (nomark _)) (pss_cons (ps_aug (i := 11) sc_job_ends.nd rfl (.inl rfl) pe_int ip_add) (pss_one (ps_if (pt_cmpR op_eq (pv 11) (pv 6) (nomark _)) (pss_cons (ps_expr (pe_bm PySem.F.plainAttrs_list PySem.F.slot_list_append PySem.F.type_list_append mt_append (pv 10) (pa_cons (pe_op op_sub (pe_op op_sub (pe_fld (pv 9) rfl) (pv 8)) (pe_mul (pe_callB call_len (by rfl) D.B.len PySem.boot_len (pa_cons (pv 10) pa_nil)) (pv 7))) pa_nil))) (pss_one (ps_set (i := 11) sc_job_ends.nd rfl (.inl rfl) pe_int))) pss_nil))) pss_nil)))
      (pss_one (ps_ret (pe_callTy call_tuple_of (by rfl) D.B.tuple (by decide +kernel) (pa_cons (pv 10) pa_nil))))))))))))), ?_⟩
    refine ⟨x, rfl, x, j, rfl, hj, ?_⟩
    cases ec : chk j with
    | num => rw [ec] at q; exact q
    | many => rw [ec] at q; exact q
    | ok js =>
      rw [ec] at q
      obtain ⟨hl, hok⟩ := chk_ok ec
      refine fun a H1 s1 jt => ?_
      obtain ⟨ts, ha, pt⟩ := id jt
      have lts := jt_len pt
      refine ⟨.ref a, rfl, .int pl, rfl, a, ts, pl, rfl, ha, by omega, ?_⟩
      rw [lts]
      rw [Chkd] at q
      by_cases hp : 0 ≤ pl ∧ pl < js.length
      rotate_left
      · rw [if_neg hp] at q ⊢
        exact q.same s1
      rw [if_pos hp] at q ⊢
      refine ⟨.int many, rfl, .int many, 0, 200, rfl, .inl ⟨many, rfl⟩, _, rfl, ?_⟩
      have ew : wholeV 0 200 (.int many) = (decide (0 ≤ many) && decide (many ≤ 200)) := rfl
      rw [ew, ← Bool.decide_and]
      by_cases hm : 0 ≤ many ∧ many ≤ 200
      rotate_left
      · rw [if_neg hm] at q
        rw [decide_eq_false hm]
        exact iteT (mkO_word (by decide +kernel) q s1)
      rw [if_pos hm] at q
      rw [decide_eq_true hm]
      refine iteF ?_
      obtain ⟨p, rfl⟩ : ∃ p : Nat, pl = (p : Nat) := ⟨pl.toNat, by omega⟩
      obtain ⟨mn, rfl⟩ : ∃ m : Nat, many = (m : Nat) := ⟨many.toNat, by omega⟩
      have hpl : p < js.length := by omega
      rw [Int.toNat_natCast, Int.toNat_natCast] at q
      obtain ⟨j1, hj1⟩ : ∃ j1, js[p]? = some j1 := ⟨_, List.getElem?_eq_getElem hpl⟩
      have ok1 := hok j1 (List.mem_of_getElem? hj1)
      refine ⟨.ref a, rfl, a, js, rfl, jt, hok, hl, fun H2 U mv y1 y2 r s2 eU hmv hfm => ?_⟩
      have s12 := s1.trans s2
      obtain ⟨ts2, ha2, pt2⟩ := jt.same s2
      have lts2 := jt_len pt2
      obtain ⟨j1', b, hj1', hbx, hb⟩ := jobs_got pt2 (List.getElem?_eq_getElem (show p < ts2.length by omega))
      rw [hj1] at hj1'
      cases hj1'
      refine ⟨U, _, rfl, sqT eU, rfl, _, _, rfl, _, _, rfl, _, _, rfl, rfl, ?_⟩
      refine ⟨_, rfl, _, rfl, a, ts2, p, .ref b, rfl, rfl, sqT ha2, atI_nat (by rw [List.getElem?_eq_getElem (show p < ts2.length by omega), hbx]), b, _, rfl, sqT hb, rfl, _, _, rfl, _, _, rfl, _, _, rfl, rfl, ?_⟩
      refine ⟨_, rfl, fun c dx nc ndx nec => mk_clock (jt.same s2) (by omega) nc ndx nec (fun H3 L s3 nLc nL0 ck => ?_) _⟩
      refine ⟨by decide, fun M nM => ?_⟩
      have nMc : M ≠ c := fun z => by obtain ⟨⟨_, _, e, _⟩, _⟩ := ck; rw [z, e] at nM; cases nM
      have nML : M ≠ L := fun z => by rw [z, ck.lst] at nM; cases nM
      have sM := same_upd nM (o := .lst [])
      have ckM := ck.same sM
      have sHM := s3.trans sM
      have nMH := s3.free nM
      have eM : upd H3 M (.lst []) M = some (.lst []) := upd_same
      generalize upd H3 M (.lst []) = H4 at ckM eM sM sHM ⊢
      refine ⟨fun m σ H' => ∃ T run c5, m = bnd j1 mn r - T ∧ σ = [some x, some (.int (p : Nat)), some (.int (mn : Nat)), some (.ref a), some mv, c5, some (.int (j1.r : Nat)), some (.int (j1.p : Nat)), some (.int (j1.o : Nat)), some (.ref c), some (.ref M), some (.int (run : Nat))] ∧ Same H2 H' ∧ (∃ f, Ck D.Clock.C H' c L a js T (lefts js T) f) ∧ H' M = some (.lst (vInts (ends js p T))) ∧ NoM js T ∧ (∀ t, t < T → (ends js p t).length < mn) ∧ Runs js p T run, ⟨_, 0, 0, _, rfl, rfl, sHM, ⟨_, ckM⟩, eM, fun t h => by omega, fun t h => by omega, runs_zero hpl⟩, ?_⟩
      rintro m σ H5 ⟨T, run, c5, rfl, rfl, s5, ⟨f, ck5⟩, eM5, nm, few, rn⟩
      obtain ⟨⟨dx5, mv5, hc5, hm5⟩, hL5, hj5, ln5⟩ := id ck5
      have nT : NoAttr K D.Clock.C "tick" := D.Clock.nf _ (by simp)
      have hmv5 := hmv.same s5
      have len5 : (vInts (ends js p T)).length = (ends js p T).length := List.length_map _
      -- the loop is over
      have over : (mn ≤ (ends js p T).length ∨ miss js T (lefts js T) ≠ none) → ∀ c5 run, (tRet (tCB (fun xs H Q => ∃ p ys, xs = [.ref p] ∧ ((SqL K H p ys ∧ ∀ l, H l = none → Q (.ref l) (upd H l (.tup ys))) ∨ (SqT K H p ys ∧ Q (.ref p) H))) (tCons (tVar 10) tNil))) { nx := fun _ H' => Q V.non H', rt := Q } [some x, some (.int (p : Nat)), some (.int (mn : Nat)), some (.ref a), some mv, c5, some (.int (j1.r : Nat)), some (.int (j1.p : Nat)), some (.int (j1.o : Nat)), some (.ref c), some (.ref M), some (.int (run : Nat))] H5 := fun h c5 run =>
        ⟨.ref M, rfl, M, _, rfl, .inl ⟨sqL eM5, fun l nl => q l _ _ (s12.trans (s5.trans (same_upd nl))) upd_same ⟨T, nm, few, h, rfl⟩⟩⟩
      refine ⟨.ref M, rfl, .ref M, _, rfl, .inl ⟨_, sqL eM5, len5.symm⟩, _, rfl, _, _, rfl, rfl, _, rfl, ?_⟩
      by_cases hlen : (ends js p T).length < mn
      rotate_left
      · exact iteFq (decide_eq_false (by omega)) (iteF (over (.inl (by omega)) _ _))
      refine iteTq (decide_eq_true (by omega)) ⟨_, rfl, rfl, _, rfl, ?_⟩
      -- one tick
      cases r with
      | none =>
        obtain rfl : mv = .non := hmv
        refine iteTq (decide_eq_true rfl) (iteT ?_)
        have hms := hfm T
        have hB : T < bnd j1 mn none := by
          rcases Nat.lt_or_ge T (j1.p * (mn + 1)) with z | z
          · exact z
          · have := ends_many hj1 ok1 nm z; omega
        refine ⟨fun σ' H' => ∃ m', m' < bnd j1 mn none - T ∧ ∃ T run c5, m' = bnd j1 mn none - T ∧ σ' = [some x, some (.int (p : Nat)), some (.int (mn : Nat)), some (.ref a), some .non, c5, some (.int (j1.r : Nat)), some (.int (j1.p : Nat)), some (.int (j1.o : Nat)), some (.ref c), some (.ref M), some (.int (run : Nat))] ∧ Same H2 H' ∧ (∃ f, Ck D.Clock.C H' c L a js T (lefts js T) f) ∧ H' M = some (.lst (vInts (ends js p T))) ∧ NoM js T ∧ (∀ t, t < T → (ends js p t).length < mn) ∧ Runs js p T run, fun _ _ h => h, ?_⟩
        have few1 : ∀ t, t < T + 1 → (ends js p t).length < mn := fun t ht => by
          by_cases e : t = T
          · rw [e]; exact hlen
          · exact few t (by omega)
        obtain ⟨rn1, rn2⟩ := runs_next hj1 ok1.r1 hms rn
        refine ⟨_, rfl, c, dx5, _, rfl, hc5, cf_no _ _ _ _ (by decide +kernel) (by decide +kernel) (by decide +kernel) (by decide +kernel), c, L, a, js, T, _, _, rfl, ck5, hok, by omega, fun H6 k6 ck6 => ⟨_, rfl, rfl, _, rfl, ?_⟩⟩
        have s6 : Same H2 H6 := same_k2 s5 k6 nc nL0
        have eM6 := k6 _ _ nMc nML eM5
        obtain ⟨⟨dx6, mv6, hc6, hm6⟩, hL6, hj6, ln6⟩ := id ck6
        by_cases e : whoR js T = some p
        · obtain ⟨ra, rb⟩ := rn1 e
          refine iteTq (whoV_eq.trans (decide_eq_true e)) ⟨_, rfl, _, 1, rfl, rfl, _, rfl, _, rfl, rfl, _, rfl, ?_⟩
          by_cases er : run + 1 = j1.r
          · obtain ⟨e1, e2⟩ := ra er
            refine iteTq (decide_eq_true (by rw [← er]; rfl)) ⟨.ref M, rfl, .inl ⟨rfl, _, sqL eM6⟩, _, rfl, c, D.Clock.C, dx6, _, _, rfl, hc6, D.Clock.cl, nT, cf_tick _ _ _ _, _, rfl, _, _, rfl, rfl, .ref M, rfl, .ref M, _, rfl, .inl ⟨_, sqL eM6, len5.symm⟩, _, rfl, _, _, rfl, rfl, ⟨by omega, by omega⟩, _, _, rfl, rfl, M, _, _, rfl, rfl, eM6, by rw [len5, sizeLine_eq]; omega, ?_⟩
            refine ⟨_, by omega, T + 1, 0, _, rfl, rfl, fun b o hb => by rw [upd_ne (ne_of_none hb nMH)]; exact s6 _ _ hb, ⟨_, ck6.but (fun b o hb e => by rw [upd_ne hb]; exact e) nMc.symm nML.symm (fun xs z => by rw [eM6] at z; cases z)⟩, ?_, nm.succ hms, few1, e2⟩
            rw [upd_same, e1]
            unfold vInts
            rw [List.map_append]
            rfl
          · obtain ⟨e1, e2⟩ := rb er
            refine iteFq (decide_eq_false (fun z => er (by injection z with z; have z : ((run : Nat) : Int) + 1 = (j1.r : Nat) := z; omega))) ?_
            exact ⟨_, by omega, T + 1, run + 1, _, rfl, rfl, s6, ⟨_, ck6⟩, by rw [e1]; exact eM6, nm.succ hms, few1, e2⟩
        · obtain ⟨e1, e2⟩ := rn2 e
          refine iteFq (whoV_eq.trans (decide_eq_false e)) ?_
          exact ⟨_, by omega, T + 1, run, _, rfl, rfl, s6, ⟨_, ck6⟩, by rw [e1]; exact eM6, nm.succ hms, few1, e2⟩
      | some r =>
        obtain ⟨i, m⟩ := r
        obtain ⟨W, rfl, eW⟩ := hmv5
        refine iteFq (decide_eq_false (by intro z; cases z)) ⟨_, rfl, c, D.Clock.C, dx5, _, _, rfl, hc5, D.Clock.cl, nT, cf_tick _ _ _ _, _, rfl, W, _, 1, _, rfl, rfl, sqT eW, atI_nat (j := 1) rfl, _, _, rfl, rfl, _, rfl, ?_⟩
        have hTm : T ≤ m := by
          rcases Nat.lt_or_ge m T with z | z
          · have := nm m z; rw [hfm.1] at this; cases this
          · exact z
        by_cases hT : T < m
        · refine iteTq (decide_eq_true (by omega)) ?_
          have hms := hfm.2 T hT
          have hB : T < bnd j1 mn (some (i, m)) := hT
          refine ⟨fun σ' H' => ∃ m', m' < bnd j1 mn (some (i, m)) - T ∧ ∃ T run c5, m' = bnd j1 mn (some (i, m)) - T ∧ σ' = [some x, some (.int (p : Nat)), some (.int (mn : Nat)), some (.ref a), some (.ref W), c5, some (.int (j1.r : Nat)), some (.int (j1.p : Nat)), some (.int (j1.o : Nat)), some (.ref c), some (.ref M), some (.int (run : Nat))] ∧ Same H2 H' ∧ (∃ f, Ck D.Clock.C H' c L a js T (lefts js T) f) ∧ H' M = some (.lst (vInts (ends js p T))) ∧ NoM js T ∧ (∀ t, t < T → (ends js p t).length < mn) ∧ Runs js p T run, fun _ _ h => h, ?_⟩
          have few1 : ∀ t, t < T + 1 → (ends js p t).length < mn := fun t ht => by
            by_cases e : t = T
            · rw [e]; exact hlen
            · exact few t (by omega)
          obtain ⟨rn1, rn2⟩ := runs_next hj1 ok1.r1 hms rn
          refine ⟨_, rfl, c, dx5, _, rfl, hc5, cf_no _ _ _ _ (by decide +kernel) (by decide +kernel) (by decide +kernel) (by decide +kernel), c, L, a, js, T, _, _, rfl, ck5, hok, by omega, fun H6 k6 ck6 => ⟨_, rfl, rfl, _, rfl, ?_⟩⟩
          have s6 : Same H2 H6 := same_k2 s5 k6 nc nL0
          have eM6 := k6 _ _ nMc nML eM5
          obtain ⟨⟨dx6, mv6, hc6, hm6⟩, hL6, hj6, ln6⟩ := id ck6
          by_cases e : whoR js T = some p
          · obtain ⟨ra, rb⟩ := rn1 e
            refine iteTq (whoV_eq.trans (decide_eq_true e)) ⟨_, rfl, _, 1, rfl, rfl, _, rfl, _, rfl, rfl, _, rfl, ?_⟩
            by_cases er : run + 1 = j1.r
            · obtain ⟨e1, e2⟩ := ra er
              refine iteTq (decide_eq_true (by rw [← er]; rfl)) ⟨.ref M, rfl, .inl ⟨rfl, _, sqL eM6⟩, _, rfl, c, D.Clock.C, dx6, _, _, rfl, hc6, D.Clock.cl, nT, cf_tick _ _ _ _, _, rfl, _, _, rfl, rfl, .ref M, rfl, .ref M, _, rfl, .inl ⟨_, sqL eM6, len5.symm⟩, _, rfl, _, _, rfl, rfl, ⟨by omega, by omega⟩, _, _, rfl, rfl, M, _, _, rfl, rfl, eM6, by rw [len5, sizeLine_eq]; omega, ?_⟩
              refine ⟨_, by omega, T + 1, 0, _, rfl, rfl, fun b o hb => by rw [upd_ne (ne_of_none hb nMH)]; exact s6 _ _ hb, ⟨_, ck6.but (fun b o hb e => by rw [upd_ne hb]; exact e) nMc.symm nML.symm (fun xs z => by rw [eM6] at z; cases z)⟩, ?_, nm.succ hms, few1, e2⟩
              rw [upd_same, e1]
              unfold vInts
              rw [List.map_append]
              rfl
            · obtain ⟨e1, e2⟩ := rb er
              refine iteFq (decide_eq_false (fun z => er (by injection z with z; have z : ((run : Nat) : Int) + 1 = (j1.r : Nat) := z; omega))) ?_
              exact ⟨_, by omega, T + 1, run + 1, _, rfl, rfl, s6, ⟨_, ck6⟩, by rw [e1]; exact eM6, nm.succ hms, few1, e2⟩
          · obtain ⟨e1, e2⟩ := rn2 e
            refine iteFq (whoV_eq.trans (decide_eq_false e)) ?_
            exact ⟨_, by omega, T + 1, run, _, rfl, rfl, s6, ⟨_, ck6⟩, by rw [e1]; exact eM6, nm.succ hms, few1, e2⟩
        · refine iteFq (decide_eq_false (by omega)) ?_
          refine over (.inr ?_) _ _
          rw [show T = m by omega, hfm.1]
          exact fun z => by cases z
end
end K7

set_option Elab.async false
set_option linter.all false
set_option maxRecDepth 100000
set_option maxHeartbeats 4000000
namespace K7
/-! ### responses: the mathematics -/
def up (n p : Nat) : Nat := (n + p - 1) / p
theorem up_mono {n m p : Nat} (h : n ≤ m) : up n p ≤ up m p := Nat.div_le_div_right (by omega)
theorem up_one {n p : Nat} (h1 : 1 ≤ n) (h2 : n ≤ p) : up n p = 1 := by
  unfold up
  rw [show n + p - 1 = (n - 1) + p by omega, Nat.add_div_right _ (by omega), Nat.div_eq_of_lt (by omega)]
theorem le_up {n p : Nat} (hp : 1 ≤ p) : n ≤ p * up n p := by
  unfold up
  have h := Nat.lt_mul_div_succ (n + p - 1) (show 0 < p by omega)
  rw [Nat.mul_add] at h
  omega
theorem up_mul {q p : Nat} (hp : 1 ≤ p) : up (q * p) p = q := by
  unfold up
  rw [show q * p + p - 1 = (p - 1) + q * p by omega, Nat.add_mul_div_right _ _ (by omega), Nat.div_eq_of_lt (by omega)]
  omega
theorem up_pos {n p : Nat} (h1 : 1 ≤ n) (hp : 1 ≤ p) : 1 ≤ up n p := by
  have := le_up (n := n) hp
  rcases Nat.eq_zero_or_pos (up n p) with z | z
  · rw [z] at this; omega
  · exact z
theorem up_int {n p : Nat} (hp : 1 ≤ p) : (((n : Nat) : Int) + ((p : Nat) : Int) - 1).fdiv ((p : Nat) : Int) = ((up n p : Nat) : Int) := by
  rw [Int.fdiv_eq_ediv_of_nonneg _ (by omega), show ((n : Nat) : Int) + ((p : Nat) : Int) - 1 = ((n + p - 1 : Nat) : Int) by omega, ← Int.natCast_ediv]
  rfl
/-- the work of these jobs within t -/
def load (l : List Job) (t : Nat) : Nat := (l.map fun j => j.r * up t j.p).sum
theorem load_mono {l : List Job} {s t : Nat} (h : s ≤ t) : load l s ≤ load l t := by
  unfold load
  induction l with
  | nil => exact Nat.le_refl _
  | cons j l ih =>
    rw [List.map_cons, List.map_cons, List.sum_cons, List.sum_cons]
    exact Nat.add_le_add (Nat.mul_le_mul_left _ (up_mono h)) ih
def wk (js : List Job) (i t : Nat) : Nat := (jobAt js i).r + load (js.take i) t
theorem wk_mono {js : List Job} {i s t : Nat} (h : s ≤ t) : wk js i s ≤ wk js i t := Nat.add_le_add_left (load_mono h) _
def rowF (js : List Job) (i : Nat) : Nat → Nat → List Nat
  | 0, x => [x]
  | f + 1, x => if x ≤ (jobAt js i).p then (if wk js i x = x then [x] else x :: rowF js i f (wk js i x)) else [x]
def rowL (js : List Job) (i : Nat) : List Nat := rowF js i 30 (jobAt js i).r
def Feas (js : List Job) (i : Nat) : Prop := ∃ t, 1 ≤ t ∧ t ≤ (jobAt js i).p ∧ wk js i t ≤ t
theorem rowF_ne {js : List Job} {i : Nat} : ∀ {f x : Nat}, rowF js i f x ≠ []
  | 0, x => by simp [rowF]
  | f + 1, x => by
    rw [rowF]
    split
    · split <;> simp
    · simp
theorem rowF_last {js : List Job} {i : Nat} {j : Job} (e : jobAt js i = j) (hj : JOk j) : ∀ {f x : Nat}, 25 ≤ x + f → x ≤ wk js i x → 1 ≤ x → (∀ t, 1 ≤ t → wk js i t ≤ t → x ≤ t) →
    ∃ y, (rowF js i f x).getLast? = some y ∧ (y ≤ j.p ↔ Feas js i)
  | 0, x, hf, hw, h1, hx => by
    have := hj.p2
    refine ⟨x, rfl, fun h => by omega, fun ⟨t, t1, t2, t3⟩ => ?_⟩
    rw [e] at t2
    have := hx t t1 t3
    omega
  | f + 1, x, hf, hw, h1, hx => by
    rw [rowF, e]
    by_cases hp : x ≤ j.p
    · rw [if_pos hp]
      by_cases he : wk js i x = x
      · rw [if_pos he]
        exact ⟨x, rfl, fun _ => ⟨x, h1, by rw [e]; exact hp, by omega⟩, fun _ => hp⟩
      · rw [if_neg he]
        obtain ⟨y, hy, hl⟩ := rowF_last e hj (f := f) (x := wk js i x) (by omega) (wk_mono hw) (by omega) fun t t1 t2 => Nat.le_trans (wk_mono (hx t t1 t2)) t2
        refine ⟨y, ?_, hl⟩
        rw [List.getLast?_cons, hy]
        rfl
    · rw [if_neg hp]
      refine ⟨x, rfl, fun h => absurd h hp, fun ⟨t, t1, t2, t3⟩ => ?_⟩
      rw [e] at t2
      have := hx t t1 t3
      omega
theorem wk_ge (js : List Job) (i t : Nat) : (jobAt js i).r ≤ wk js i t := Nat.le_add_right _ _
theorem rowL_last {js : List Job} {i : Nat} (hj : JOk (jobAt js i)) : ∃ y, (rowL js i).getLast? = some y ∧ (y ≤ (jobAt js i).p ↔ Feas js i) := by
  have := hj.r1
  exact rowF_last rfl hj (by omega) (wk_ge _ _ _) hj.r1 fun t _ h => Nat.le_trans (wk_ge js i t) h
end K7

set_option Elab.async false
set_option linter.all false
set_option maxRecDepth 100000
set_option maxHeartbeats 4000000
namespace K7
open PySem PySem.Spec PyProof.Rows L2 GX NdefX
def spUp : Sp := fun vs H Q _ => ∃ n p : Nat, vs = [.int n, .int p] ∧ 1 ≤ p ∧ p < 1000 ∧ Q (.int (up n p : Nat)) H
def spRow : Sp := fun vs H Q _ => ∃ (a : Addr) (js : List Job) (i : Nat), vs = [.ref a, .int i] ∧ JobsT H a js ∧ (∀ j ∈ js, JOk j) ∧ i < js.length ∧ js.length ≤ 5 ∧
  ∀ D H', Same H H' → H D = none → H' D = some (.lst (nts (rowL js i))) → Q (.ref D) H'
theorem jobs_at {H : Hp} {ts : List V} {js : List Job} (p : TupsT H ts (js.map jv)) {i : Nat} (h : i < js.length) : ∃ a, ts[i]? = some (.ref a) ∧ js[i]? = some (jobAt js i) ∧ H a = some (.tup (jv (jobAt js i))) := by
  have hl : ts.length = js.length := by have := p.length; rw [List.length_map] at this; exact this
  obtain ⟨j, a, hj, e, ha⟩ := jobs_got p (List.getElem?_eq_getElem (show i < ts.length by omega))
  rw [jobAt_get hj]
  exact ⟨a, by rw [List.getElem?_eq_getElem (show i < ts.length by omega), e], hj, ha⟩
theorem nts_app (l m : List Nat) : nts (l ++ m) = nts l ++ nts m := List.map_append
theorem sum_nat (l : List Nat) : ((nts l).length = l.length) ∧ (l.map fun (n : Nat) => (n : Int)).sum = ((l.sum : Nat) : Int) := by
  refine ⟨List.length_map _, ?_⟩
  induction l with
  | nil => rfl
  | cons n l ih => rw [List.map_cons, List.sum_cons, List.sum_cons, ih]; omega
theorem nts_ints (l : List Nat) : nts l = (l.map fun (n : Nat) => (n : Int)).map V.int := by
  unfold nts
  rw [List.map_map]
  rfl
theorem loadl (js : List Job) (n t : Nat) : ∀ (l : List V), l = ((js.take n).map fun j => V.int ((j.r * up t j.p : Nat) : Int)) → l = (((js.take n).map fun j => ((j.r * up t j.p : Nat) : Int)).map V.int) := fun l h => by rw [h, List.map_map]; rfl
theorem load_sum (l : List Job) (t : Nat) : (l.map fun j => ((j.r * up t j.p : Nat) : Int)).sum = ((load l t : Nat) : Int) := by
  unfold load
  induction l with
  | nil => rfl
  | cons j l ih => rw [List.map_cons, List.map_cons, List.sum_cons, List.sum_cons, ih]; omega
theorem up_le {n p : Nat} (hp : 1 ≤ p) : up n p ≤ n := by
  unfold up
  rcases Nat.eq_zero_or_pos n with z | z
  · subst z; rw [Nat.div_eq_of_lt (by omega)]; exact Nat.le_refl _
  · refine Nat.le_trans (Nat.div_le_div_right (c := p) (show n + p - 1 ≤ n * p by
      have : n * p = (n - 1) * p + p := by
        rw [Nat.sub_mul, Nat.one_mul, Nat.sub_add_cancel (Nat.le_mul_of_pos_left p z)]
      have h2 : n - 1 ≤ (n - 1) * p := Nat.le_mul_of_pos_right _ hp
      omega)) ?_
    rw [Nat.mul_div_cancel _ (by omega)]
    exact Nat.le_refl _
section
variable {P : Program} {w : World} {K : PySem.W.Frag} {mg : Str → Option Value} {base : Heap}
theorem ok_rounded {k : Nat} (D : Pr P K mg) : FnOk P w K mg base CX0 (k + 1) D._rounded_up.f D._rounded_up.fd ["number", "other"] spUp := by
  refine D._rounded_up.F.ok sc__rounded_up (fun vs H Q E h => ?_) (fun cdv A outer s H vs Q E hr h => ?_)
  · obtain ⟨n, p, rfl, _⟩ := h
    rfl
  · obtain ⟨n, p, rfl, hp, hp2, q⟩ := h
    refine ⟨_, (pss_one (ps_ret (pe_op op_fdivN (pe_op op_sub (pe_op op_add (pv 0) (pv 1)) pe_int) (pv 1)))), ?_⟩
    refine ⟨.int n, rfl, .int p, rfl, _, _, rfl, rfl, _, _, rfl, rfl, .int p, rfl, _, p, rfl, rfl, ⟨by omega, by omega⟩, ?_⟩
    have e := up_int (n := n) hp
    show Q (.int ((((n : Nat) : Int) + ((p : Nat) : Int) - 1).fdiv ((p : Nat) : Int))) H
    rw [e]
    exact q
theorem ok_row {k : Nat} (D : Pr P K mg) : FnOk P w K mg base CX0 (k + 2) D._row.f D._row.fd ["jobs", "place"] spRow := by
  have G__rounded_up : FnOk P w K mg base CX0 (k + 1) D._rounded_up.f D._rounded_up.fd ["number", "other"] spUp := ok_rounded D
  refine D._row.F.ok sc__row (fun vs H Q E h => ?_) (fun cdv A outer s H vs Q E hr h => ?_)
  · obtain ⟨a, js, i, rfl, _⟩ := h
    rfl
  · obtain ⟨a, js, i, rfl, ⟨ts, ha, pt⟩, hok, hi, hl, q⟩ := h
    refine ⟨_, (pss_cons (ps_asg (pe_ix (r := rIxT K) ix_tup (pv 0) (pv 1) (fun _ _ => rfl)) (pg_tup rfl (pgs_cons (pg_name (i := 2) sc__row.nd rfl (.inl rfl)) (pgs_cons (pg_name (i := 3) sc__row.nd rfl (.inl rfl)) (pgs_cons (pg_name (i := 4) sc__row.nd rfl (.inl rfl)) pgs_nil)))))
      (pss_cons (ps_set (i := 5) sc__row.nd rfl (.inr rfl) (pe_lst (pa_cons (pv 2) pa_nil)))
      (pss_cons (ps_while PassesOwn.never (pt_cmpR op_le (pe_ix (r := rIxL K) ix_list (pv 5) (pe_un un_neg pe_int) (fun _ _ => rfl)) (pv 3) (nomark _)) (pss_cons (ps_set (i := 6) sc__row.nd rfl (.inl rfl) (pe_op op_add (pv 2) (pe_callB (cr_sum rfl) (by rfl) D.B.sum (by decide +kernel) (pa_cons (pe_lc (own := [("many", 7), ("each", 8), ("_", 4)]) (g := (gTup K 3 (gCons (gName 7) (gCons (gName 8) (gCons (gName 4) gNil))))) (tt := tYes) rfl sc__row.nd (pi_tup (pe_slice sl_tupA (pv 0) po_none (po_some (pv 1)))) (blkOk_by (own := [("many", 7), ("each", 8), ("_", 4)]) (N := n__row) (sc := defScope s__row) (by decide +kernel)) (fun _ _ _ _ _ => (pg_tup rfl (pgs_cons (pg_name (i := 7) sc__row.nd rfl (.inl rfl)) (pgs_cons (pg_name (i := 8) sc__row.nd rfl (.inl rfl)) (pgs_cons (pg_name (i := 4) sc__row.nd rfl (.inl rfl)) pgs_nil))))) (fun _ _ _ _ _ => pts_nil) (fun _ _ _ _ _ => (pe_mul (pv 7) (pe_call G__rounded_up hr (by rfl) D._rounded_up.g D._rounded_up.F.kp D._rounded_up.b .nil pass0 (pa_cons (pe_ix (r := rIxL K) ix_list (pv 5) (pe_un un_neg pe_int) (fun _ _ => rfl)) (pa_cons (pv 8) pa_nil)))))) pa_nil)))) (pss_cons (ps_if (pt_cmpR op_eq (pv 6) (pe_ix (r := rIxL K) ix_list (pv 5) (pe_un un_neg pe_int) (fun _ _ => rfl)) (nomark _)) (pss_one ps_break) pss_nil) (pss_one (ps_expr (pe_bm PySem.F.plainAttrs_list PySem.F.slot_list_append PySem.F.type_list_append mt_append (pv 5) (pa_cons (pv 6) pa_nil)))))))
      (pss_one (ps_ret (pv 5)))))), ?_⟩
    obtain ⟨b, hb, hj, hbe⟩ := jobs_at pt hi
    have jok := hok _ (List.mem_of_getElem? hj)
    refine ⟨.ref a, rfl, .int i, rfl, a, ts, i, .ref b, rfl, rfl, sqT ha, atI_nat hb, b, _, rfl, sqT hbe, rfl, _, _, rfl, _, _, rfl, _, _, rfl, rfl, ?_⟩
    generalize ej : jobAt js i = j at hbe jok ⊢
    refine ⟨_, rfl, by show 1 ≤ sizeLine; decide, fun R nR => ?_⟩
    refine ⟨fun m σ H' => ∃ c6 c7 c8 c4 pre x, σ = [some (.ref a), some (.int i), some (.int (j.r : Nat)), some (.int (j.p : Nat)), c4, some (.ref R), c6, c7, c8] ∧ Same H H' ∧ H' R = some (.lst (nts (pre ++ [x]))) ∧ pre ++ rowF js i m x = rowL js i ∧ pre.length + m = 30 ∧ 25 ≤ x + m ∧ x ≤ wk js i x ∧ x < 100000,
      ⟨30, _, _, _, _, [], j.r, rfl, same_upd nR, upd_same, by rw [rowL, ej]; rfl, rfl, by omega, by rw [← ej]; exact wk_ge _ _ _, by have := jok.r2; omega⟩, ?_⟩
    rintro m σ H1 ⟨c6, c7, c8, c4, pre, x, rfl, s1, eR, hrow, hpm, hxm, hwx, hx5⟩
    have hend : atI (nts (pre ++ [x])) (-1) = some (.int (x : Nat)) := by
      rw [nts_app]
      exact atI_end _ _
    refine ⟨.ref R, rfl, 1, rfl, R, _, _, _, rfl, rfl, sqL eR, hend, .int (j.p : Nat), rfl, _, _, rfl, rfl, _, rfl, ?_⟩
    by_cases hp : x ≤ j.p
    case neg =>
      rw [decide_eq_false (by omega)]
      refine iteFq rfl ⟨.ref R, rfl, q R H1 s1 nR ?_⟩
      rw [eR]
      have : rowF js i m x = [x] := by
        cases m with
        | zero => rfl
        | succ m => rw [rowF, ej, if_neg hp]
      rw [this] at hrow
      rw [hrow]
    rw [decide_eq_true (by omega)]
    obtain ⟨m, rfl⟩ : ∃ m', m = m' + 1 := ⟨m - 1, by have := jok.p2; omega⟩
    rw [rowF, ej, if_pos hp] at hrow
    refine iteTq rfl ⟨_, fun σ' H' h => ⟨m, Nat.lt_succ_self m, h⟩, ?_⟩
    -- the sum
    refine ⟨_, rfl, .ref a, rfl, .int i, rfl, (i : Nat), rfl, slA (s1 _ _ ha) fun S H2 s2 e2 => ?_⟩
    rw [cut_to] at e2
    refine ⟨S, rfl, ⟨_, sqT e2⟩, ?_⟩
    have s02 := s1.trans s2
    have hwle : wk js i x < 100000 := by
      have hb : ∀ l : List Job, (∀ j ∈ l, JOk j) → load l x ≤ l.length * (12 * x) := fun l => by
        induction l with
        | nil => intro _; exact Nat.zero_le _
        | cons j l ih =>
          intro h
          have h1 := ih fun j hj => h j (List.mem_cons_of_mem _ hj)
          have h2 : load (j :: l) x = j.r * up x j.p + load l x := by unfold load; rw [List.map_cons, List.sum_cons]
          have h3 := h j List.mem_cons_self
          have h4 : j.r * up x j.p ≤ 12 * x := Nat.mul_le_mul h3.r2 (up_le h3.p1)
          rw [h2, List.length_cons, Nat.succ_mul]
          omega
      have h1 := hb (js.take i) fun j hj => hok j (List.mem_of_mem_take hj)
      have h2 : (js.take i).length * (12 * x) ≤ 5 * (12 * 24) := Nat.mul_le_mul (by rw [List.length_take]; omega) (by have := jok.p2; omega)
      have h3 : wk js i x = j.r + load (js.take i) x := by unfold wk; rw [ej]
      have := jok.r2
      omega
    refine lcTup (xs := ts.take i) (fun n H y => ∀ j', (js.take i)[n]? = some j' → y = .int ((j'.r * up x j'.p : Nat) : Int)) (fun _ _ _ _ _ h => h) (fun _ _ _ _ _ _ _ _ h => h) e2 (by rw [List.length_take]; have := pt.length; rw [List.length_map] at this; omega) (fun Dl n y H3 Qk Qn hy s3 nDl eDl hk => ?_) (fun Dl H3 us nDl s3 eDl pu => ?_)
    · have pt3 := (paired_take (TupsT.same (s02.trans s3) pt) i).1
      rw [← List.map_take] at pt3
      obtain ⟨j', b', hj', rfl, hb'⟩ := jobs_got pt3 hy
      have ok' := hok j' (List.mem_of_mem_take (List.mem_of_getElem? hj'))
      have := ok'.r2; have := ok'.p1; have := ok'.p2
      refine ⟨b', _, rfl, sqT hb', rfl, _, _, rfl, _, _, rfl, _, _, rfl, rfl, rfl, ?_⟩
      refine iteT (B := Qn H3) ⟨_, rfl, .ref R, rfl, 1, rfl, R, _, _, _, rfl, rfl, sqL (s3 _ _ (s2 _ _ eR)), hend, _, rfl, x, j'.p, rfl, by omega, by omega, _, _, rfl, rfl, ⟨by omega, by omega⟩, ?_⟩
      refine hk _ H3 (fun j2 h2 => ?_) (Same.refl _)
      rw [hj'] at h2
      cases h2
      rw [Int.natCast_mul]
    · have lt : (ts.take i).length = (js.take i).length := by
        have := pt.length
        rw [List.length_map] at this
        rw [List.length_take, List.length_take, this]
      have eu : us = (js.take i).map fun j' => V.int ((j'.r * up x j'.p : Nat) : Int) := paired_eq (paired_range pu lt fun n y j' hj' h => h j' hj')
      have eu2 := loadl js i x us eu
      rw [eu2] at eDl
      have eW : ((j.r : Nat) : Int) + ((load (js.take i) x : Nat) : Int) = ((wk js i x : Nat) : Int) := by unfold wk; rw [ej]; omega
      refine ⟨Dl, _, rfl, sqL eDl, _, ((load (js.take i) x : Nat) : Int), rfl, congrArg V.int (load_sum _ _), ?_⟩
      have s03 := s02.trans s3
      have eR3 := s3 _ _ (s2 _ _ eR)
      refine ⟨_, rfl, .ref R, rfl, 1, rfl, R, _, _, _, rfl, rfl, sqL eR3, hend, rfl, _, rfl, ?_⟩
      by_cases he : wk js i x = x
      · rw [if_pos he] at hrow
        refine iteTq (decide_eq_true (congrArg V.int (eW.trans (by rw [he])))) ⟨.ref R, rfl, q R H3 s03 nR ?_⟩
        rw [eR3, hrow]
      · rw [if_neg he] at hrow
        refine iteFq (decide_eq_false fun z => he (by have z := V.int.inj z; rw [eW] at z; omega)) ⟨.ref R, rfl, .inl ⟨rfl, _, sqL eR3⟩, _, rfl, R, _, _, rfl, rfl, eR3, by rw [nts_len, List.length_append, List.length_singleton, sizeLine_eq]; omega, ?_⟩
        refine ⟨_, _, _, _, pre ++ [x], wk js i x, rfl, fun b o e => ?_, ?_, ?_, ?_, ?_, wk_mono hwx, hwle⟩
        · rw [upd_ne (ne_of_none e nR)]
          exact s03 _ _ e
        · rw [upd_same, nts_app (pre ++ [x])]
          exact congrArg (fun z => some (HO.lst (nts (pre ++ [x]) ++ [V.int z]))) eW
        · rw [List.append_assoc]
          exact hrow
        · rw [List.length_append, List.length_singleton]
          omega
        · omega
end
end K7

set_option Elab.async false
set_option linter.all false
set_option maxRecDepth 100000
set_option maxHeartbeats 4000000
namespace K7
open PySem PySem.Spec PyProof.Rows L2 GX NdefX
/-! ### never_misses, rows_of_response, response -/
theorem Chkd.imp {CN CM : Addr} {E : XK} {H H1 : Hp} {A B : List Job → Prop} {c : Chk} (h : Chkd CN CM E H A c) (s : Same H H1) (k : ∀ js, c = .ok js → A js → B js) : Chkd CN CM E H1 B c := by
  cases c with
  | num => exact Rai.same h s
  | many => exact Rai.same h s
  | ok js => exact k js rfl h
def AllF (js : List Job) : Prop := ∀ i, i < js.length → Feas js i
def spNever (CN CM : Addr) : Sp := fun vs H Q E => ∃ x j, vs = [x] ∧ JbAt H x j ∧ Chkd CN CM E H (fun js => ∀ H' b, Same H H' → (b = true ↔ AllF js) → Q (.bl b) H') (chk j)
open Classical in
noncomputable def feasB (js : List Job) (i : Nat) : Bool := decide (Feas js i)
open Classical in
theorem feasB_iff {js : List Job} {i : Nat} : feasB js i = true ↔ Feas js i := by
  unfold feasB
  exact decide_eq_true_iff
def spRows (CN CM : Addr) : Sp := fun vs H Q E => ∃ x j, ∃ pl : Int, vs = [x, .int pl] ∧ JbAt H x j ∧ Chkd CN CM E H (fun js => if 0 ≤ pl ∧ pl < js.length then ∀ T H', Same H H' → H' T = some (.tup (nts (rowL js pl.toNat))) → Q (.ref T) H' else Rai E CN H [("word", .str "place")]) (chk j)
/-- what response tells of the last of the row -/
def RespV (js : List Job) (i : Nat) (v : V) : Prop := ∃ y, (rowL js i).getLast? = some y ∧ v = if y ≤ (jobAt js i).p then .int (y : Nat) else .non
def spResp (CN CM : Addr) : Sp := fun vs H Q E => ∃ x j, ∃ pl : Int, vs = [x, .int pl] ∧ JbAt H x j ∧ Chkd CN CM E H (fun js => if 0 ≤ pl ∧ pl < js.length then ∀ v H', Same H H' → RespV js pl.toNat v → Q v H' else Rai E CN H [("word", .str "place")]) (chk j)
section
variable {P : Program} {w : World} {K : PySem.W.Frag} {mg : Str → Option Value} {base : Heap}
theorem ok_never {k : Nat} (D : Pr P K mg) : FnOk P w K mg base (CX P w) (k + 4) D.never_misses.f D.never_misses.fd ["jobs"] (spNever D.BadNumber.C D.TooMany.C) := by
  have G_check_jobs : FnOk P w K mg base (CX P w) (k + 3) D.check_jobs.f D.check_jobs.fd ["jobs"] (spCheck D.BadNumber.C D.TooMany.C) := ok_check_jobs D
  have G__row : FnOk P w K mg base CX0 (k + 2) D._row.f D._row.fd ["jobs", "place"] spRow := ok_row D
  refine D.never_misses.F.okX sc_never_misses (fun vs H Q E h => ?_) (fun cdv A outer s H vs Q E hr h => ?_)
  · obtain ⟨x, j, rfl, _⟩ := h
    rfl
  · obtain ⟨x, j, rfl, hj, h⟩ := h
    refine ⟨_, (pss_cons (ps_set (i := 1) sc_never_misses.nd rfl (.inr rfl) (pe_call G_check_jobs hr (by rfl) D.check_jobs.g D.check_jobs.F.kp D.check_jobs.b .nil (passes_call (takes_of rfl rfl rfl rfl) (fun _ _ _ _ h => h)) (pa_cons (pv 0) pa_nil)))
      (pss_one (ps_ret (pe_callB (cr_all rfl) (by rfl) D.B.all (by decide +kernel) (pa_cons (pe_lc (own := [("place", 2)]) (g := (gName 2)) (tt := tYes) rfl sc_never_misses.nd (pi_range1 (by rfl) D.B.range (pa_cons (pe_callB call_len (by rfl) D.B.len PySem.boot_len (pa_cons (pv 1) pa_nil)) pa_nil)) (blkOk_by (own := [("place", 2)]) (N := n_never_misses) (sc := defScope s_never_misses) (by decide +kernel)) (fun _ _ _ _ _ => (pg_name (i := 2) sc_never_misses.nd rfl (.inl rfl))) (fun _ _ _ _ _ => pts_nil) (fun _ _ _ _ _ => (pe_cmpR op_le (pe_ix (r := rIxL K) ix_list (pe_call G__row (hr.mono (by omega)) (by rfl) D._row.g D._row.F.kp D._row.b .nil pass0 (pa_cons (pv 1) (pa_cons (pv 2) pa_nil))) (pe_un un_neg pe_int) (fun _ _ => rfl)) (pe_ix (r := rIxT K) ix_tup (pe_ix (r := rIxT K) ix_tup (pv 1) (pv 2) (fun _ _ => rfl)) pe_int (fun _ _ => rfl)) (nomark _)))) pa_nil))))), ?_⟩
    refine ⟨x, rfl, x, j, rfl, hj, h.imp (Same.refl _) fun js ec q a H1 s1 jt => ?_⟩
    obtain ⟨hl, hok⟩ := chk_ok ec
    obtain ⟨ts, ha, pt⟩ := id jt
    refine ⟨.ref a, rfl, .ref a, js.length, rfl, .inr ⟨_, sqT ha, (jt_len pt).symm⟩, (js.length : Int), rfl, by omega, by omega, ?_⟩
    refine lcRngP (n := js.length) (fun i H y => y = .bl (feasB js i)) (fun _ _ _ _ _ h => h) (fun _ _ _ _ _ _ _ _ h => h) (by omega) (fun Dl i H2 Qk Qn hi s2 nDl eDl hk => ?_) (fun Dl H2 us nDl s2 eDl pu => ?_)
    · refine ⟨rfl, iteT (B := Qn H2) ⟨.ref a, rfl, .int i, rfl, a, js, i, rfl, jt.same s2, hok, hi, hl, fun R H3 s3 nR eR => ?_⟩⟩
      obtain ⟨y, hy, hf⟩ := rowL_last (js := js) (i := i) (hok _ (List.mem_of_getElem? (jobs_at pt hi).choose_spec.2.1))
      obtain ⟨b, hb, hj', hbe⟩ := jobs_at (pt.same (s2.trans s3)) hi
      refine ⟨1, rfl, R, _, _, _, rfl, rfl, sqL eR, atI_lastN hy, .ref a, rfl, .int i, rfl, a, ts, i, .ref b, rfl, rfl, sqT (s3 _ _ (s2 _ _ ha)), atI_nat hb, b, _, 1, .int ((jobAt js i).p : Nat), rfl, rfl, sqT hbe, atI_nat (j := 1) rfl, _, _, rfl, rfl, hk _ H3 ?_ s3⟩
      show V.bl (decide ((y : Int) ≤ ((jobAt js i).p : Nat))) = V.bl (feasB js i)
      refine congrArg V.bl (Bool.eq_iff_iff.mpr ?_)
      rw [feasB_iff, decide_eq_true_iff]
      exact ⟨fun z => hf.mp (by omega), fun z => by have := hf.mpr z; omega⟩
    · have e : us = ((List.range js.length).map (feasB js)).map V.bl := by
        rw [List.map_map]
        exact paired_eq pu
      rw [e] at eDl
      refine ⟨Dl, _, rfl, sqL eDl, q H2 _ (s1.trans s2) ?_⟩
      rw [List.all_map, List.all_eq_true]
      refine ⟨fun z i hi => ?_, fun z i hi => ?_⟩
      · exact feasB_iff.mp (z i (List.mem_range.mpr hi))
      · exact feasB_iff.mpr (z i (List.mem_range.mp hi))
theorem ok_rows {k : Nat} (D : Pr P K mg) : FnOk P w K mg base (CX P w) (k + 4) D.rows_of_response.f D.rows_of_response.fd ["jobs", "place"] (spRows D.BadNumber.C D.TooMany.C) := by
  have G_check_jobs : FnOk P w K mg base (CX P w) (k + 3) D.check_jobs.f D.check_jobs.fd ["jobs"] (spCheck D.BadNumber.C D.TooMany.C) := ok_check_jobs D
  have G_check_place : FnOk P w K mg base (CX P w) (k + 3) D.check_place.f D.check_place.fd ["jobs", "place"] (spPlace D.BadNumber.C) := ok_place D
  have G__row : FnOk P w K mg base CX0 (k + 2) D._row.f D._row.fd ["jobs", "place"] spRow := ok_row D
  refine D.rows_of_response.F.okX sc_rows_of_response (fun vs H Q E h => ?_) (fun cdv A outer s H vs Q E hr h => ?_)
  · obtain ⟨x, j, pl, rfl, _⟩ := h
    rfl
  · obtain ⟨x, j, pl, rfl, hj, q⟩ := h
    refine ⟨_, (pss_cons (ps_set (i := 2) sc_rows_of_response.nd rfl (.inl rfl) (pe_call G_check_jobs hr (by rfl) D.check_jobs.g D.check_jobs.F.kp D.check_jobs.b .nil (passes_call (takes_of rfl rfl rfl rfl) (fun _ _ _ _ h => h)) (pa_cons (pv 0) pa_nil)))
      (pss_cons (ps_expr (pe_call G_check_place hr (by rfl) D.check_place.g D.check_place.F.kp D.check_place.b .nil (passes_call (takes_of rfl rfl rfl rfl) (fun _ _ _ _ h => h)) (pa_cons (pv 2) (pa_cons (pv 1) pa_nil))))
      (pss_one (ps_ret (pe_callTy call_tuple_of (by rfl) D.B.tuple (by decide +kernel) (pa_cons (pe_call G__row (hr.mono (by omega)) (by rfl) D._row.g D._row.F.kp D._row.b .nil pass0 (pa_cons (pv 2) (pa_cons (pv 1) pa_nil))) pa_nil)))))), ?_⟩
    refine ⟨x, rfl, x, j, rfl, hj, q.imp (Same.refl _) fun js ec q a H1 s1 jt => ?_⟩
    obtain ⟨hl, hok⟩ := chk_ok ec
    obtain ⟨ts, ha, pt⟩ := id jt
    have lts := jt_len pt
    refine ⟨.ref a, rfl, .int pl, rfl, a, ts, pl, rfl, ha, by omega, ?_⟩
    rw [lts]
    by_cases hp : 0 ≤ pl ∧ pl < js.length
    rotate_left
    · rw [if_neg hp] at q ⊢
      exact q.same s1
    rw [if_pos hp] at q ⊢
    obtain ⟨p, rfl⟩ : ∃ p : Nat, pl = (p : Nat) := ⟨pl.toNat, by omega⟩
    rw [Int.toNat_natCast] at q
    refine ⟨.ref a, rfl, .int p, rfl, a, js, p, rfl, jt, hok, by omega, hl, fun R H2 s2 nR eR => ⟨R, _, rfl, .inl ⟨sqL eR, fun l nl => q l _ (s1.trans (s2.trans (same_upd nl))) upd_same⟩⟩⟩
theorem ok_response {k : Nat} (D : Pr P K mg) : FnOk P w K mg base (CX P w) (k + 4) D.response.f D.response.fd ["jobs", "place"] (spResp D.BadNumber.C D.TooMany.C) := by
  have G_check_jobs : FnOk P w K mg base (CX P w) (k + 3) D.check_jobs.f D.check_jobs.fd ["jobs"] (spCheck D.BadNumber.C D.TooMany.C) := ok_check_jobs D
  have G_check_place : FnOk P w K mg base (CX P w) (k + 3) D.check_place.f D.check_place.fd ["jobs", "place"] (spPlace D.BadNumber.C) := ok_place D
  have G__row : FnOk P w K mg base CX0 (k + 2) D._row.f D._row.fd ["jobs", "place"] spRow := ok_row D
  refine D.response.F.okX sc_response (fun vs H Q E h => ?_) (fun cdv A outer s H vs Q E hr h => ?_)
  · obtain ⟨x, j, pl, rfl, _⟩ := h
    rfl
  · obtain ⟨x, j, pl, rfl, hj, q⟩ := h
    refine ⟨_, (pss_cons (ps_set (i := 2) sc_response.nd rfl (.inl rfl) (pe_call G_check_jobs hr (by rfl) D.check_jobs.g D.check_jobs.F.kp D.check_jobs.b .nil (passes_call (takes_of rfl rfl rfl rfl) (fun _ _ _ _ h => h)) (pa_cons (pv 0) pa_nil)))
      (pss_cons (ps_expr (pe_call G_check_place hr (by rfl) D.check_place.g D.check_place.F.kp D.check_place.b .nil (passes_call (takes_of rfl rfl rfl rfl) (fun _ _ _ _ h => h)) (pa_cons (pv 2) (pa_cons (pv 1) pa_nil))))
      (pss_cons (ps_set (i := 3) sc_response.nd rfl (.inl rfl) (pe_ix (r := rIxL K) ix_list (pe_call G__row (hr.mono (by omega)) (by rfl) D._row.g D._row.F.kp D._row.b .nil pass0 (pa_cons (pv 2) (pa_cons (pv 1) pa_nil))) (pe_un un_neg pe_int) (fun _ _ => rfl)))
      (pss_one (ps_ret (pe_ifExp (pt_cmpR op_le (pv 3) (pe_ix (r := rIxT K) ix_tup (pe_ix (r := rIxT K) ix_tup (pv 2) (pv 1) (fun _ _ => rfl)) pe_int (fun _ _ => rfl)) (nomark _)) (pv 3) pe_non)))))), ?_⟩
    refine ⟨x, rfl, x, j, rfl, hj, q.imp (Same.refl _) fun js ec q a H1 s1 jt => ?_⟩
    obtain ⟨hl, hok⟩ := chk_ok ec
    obtain ⟨ts, ha, pt⟩ := id jt
    have lts := jt_len pt
    refine ⟨.ref a, rfl, .int pl, rfl, a, ts, pl, rfl, ha, by omega, ?_⟩
    rw [lts]
    by_cases hp : 0 ≤ pl ∧ pl < js.length
    rotate_left
    · rw [if_neg hp] at q ⊢
      exact q.same s1
    rw [if_pos hp] at q ⊢
    obtain ⟨p, rfl⟩ : ∃ p : Nat, pl = (p : Nat) := ⟨pl.toNat, by omega⟩
    rw [Int.toNat_natCast] at q
    have hpl : p < js.length := by omega
    obtain ⟨y, hy, _⟩ := rowL_last (js := js) (i := p) (hok _ (List.mem_of_getElem? (jobs_at pt hpl).choose_spec.2.1))
    refine ⟨.ref a, rfl, .int p, rfl, a, js, p, rfl, jt, hok, hpl, hl, fun R H2 s2 nR eR => ⟨1, rfl, R, _, _, _, rfl, rfl, sqL eR, atI_lastN hy, ?_⟩⟩
    obtain ⟨b, hb, hj', hbe⟩ := jobs_at (pt.same s2) hpl
    refine ⟨_, rfl, .ref a, rfl, .int p, rfl, a, ts, p, .ref b, rfl, rfl, sqT (s2 _ _ ha), atI_nat hb, b, _, 1, .int ((jobAt js p).p : Nat), rfl, rfl, sqT hbe, atI_nat (j := 1) rfl, _, _, rfl, rfl, _, rfl, ?_⟩
    by_cases hc : y ≤ (jobAt js p).p
    · exact iteTq (decide_eq_true (by omega)) ⟨_, rfl, q _ H2 (s1.trans s2) ⟨y, hy, by rw [if_pos hc]⟩⟩
    · exact iteFq (decide_eq_false (by omega)) (q _ H2 (s1.trans s2) ⟨y, hy, by rw [if_neg hc]⟩)
end
end K7

set_option Elab.async false
set_option linter.all false
set_option maxRecDepth 100000
set_option maxHeartbeats 4000000
namespace K7
open PySem PySem.Spec L2
/-! ### the critical instant -/
def sumT (js : List Job) (L u : Nat) : Nat := ((lefts js u).take L).sum
def cumA (js : List Job) (L u : Nat) : Nat := ((js.take L).map fun j => j.r * cameN j u).sum
/-- a run at level L -/
theorem run_sum : ∀ (b : List Nat) (L : Nat), 0 < (b.take L).sum → ((runL b).take L).sum + 1 = (b.take L).sum
  | [], L, h => by simp at h
  | b, 0, h => by simp at h
  | 0 :: b, L + 1, h => by
    show ((0 :: runL b).take (L + 1)).sum + 1 = ((0 :: b).take (L + 1)).sum
    rw [List.take_succ_cons, List.take_succ_cons, List.sum_cons, List.sum_cons, Nat.zero_add, Nat.zero_add]
    rw [List.take_succ_cons, List.sum_cons, Nat.zero_add] at h
    exact run_sum b L h
  | (x + 1) :: b, L + 1, h => by
    show ((x :: b).take (L + 1)).sum + 1 = (((x + 1) :: b).take (L + 1)).sum
    rw [List.take_succ_cons, List.take_succ_cons, List.sum_cons, List.sum_cons]
    omega
theorem arr_sum (t : Nat) : ∀ (js : List Job) (l : List Nat) (L : Nat), l.length = js.length → (∀ j ∈ js, JOk j) → ((arr js t l).take L).sum + ((js.take L).map fun j => j.r * cameN j t).sum = (l.take L).sum + ((js.take L).map fun j => j.r * cameN j (t + 1)).sum
  | [], [], L, _, _ => by unfold arr; simp
  | [], _ :: _, _, h, _ => by cases h
  | _ :: _, [], _, h, _ => by cases h
  | j :: js, x :: l, 0, _, _ => by simp
  | j :: js, x :: l, L + 1, h, ok => by
    have ih := arr_sum t js l L (by simpa using h) fun k hk => ok k (List.mem_cons_of_mem _ hk)
    have e := cameN_succ (ok j List.mem_cons_self) t
    show ((come1 t j x :: arr js t l).take (L + 1)).sum + _ = _
    rw [List.take_succ_cons, List.take_succ_cons, List.take_succ_cons, List.map_cons, List.map_cons, List.sum_cons, List.sum_cons, List.sum_cons, List.sum_cons, e]
    unfold come1
    by_cases c : comes j t = true
    · rw [if_pos c, if_pos c, Nat.mul_add, Nat.mul_one]; omega
    · rw [if_neg c, if_neg c, Nat.add_zero]; omega
/-- a window in which each tick runs a job of the level -/
theorem busy {js : List Job} (ok : ∀ j ∈ js, JOk j) {L s : Nat} : ∀ n, (∀ m, m < n → 0 < ((arr js (s + m) (lefts js (s + m))).take L).sum) → sumT js L (s + n) + n + cumA js L s = sumT js L s + cumA js L (s + n)
  | 0, _ => by simp
  | n + 1, h => by
    have ih := busy ok n fun m hm => h m (by omega)
    have a := arr_sum (s + n) js (lefts js (s + n)) L (lefts_len js _) ok
    have r := run_sum _ L (h n (by omega))
    have e : sumT js L (s + (n + 1)) = ((runL (arr js (s + n) (lefts js (s + n)))).take L).sum := rfl
    rw [e]
    have e2 : cumA js L (s + (n + 1)) = ((js.take L).map fun j => j.r * cameN j (s + n + 1)).sum := rfl
    rw [e2]
    have e3 : cumA js L (s + n) = ((js.take L).map fun j => j.r * cameN j (s + n)).sum := rfl
    have e4 : sumT js L (s + n) = ((lefts js (s + n)).take L).sum := rfl
    rw [e3, e4] at ih
    omega
theorem cameN_mono {j : Job} (ok : JOk j) {s : Nat} : ∀ n, cameN j s ≤ cameN j (s + n)
  | 0 => Nat.le_refl _
  | n + 1 => by
    have := cameN_mono ok (s := s) n
    have := cameN_succ ok (s + n)
    have e : cameN j (s + (n + 1)) = cameN j (s + n + 1) := rfl
    omega
theorem cameN_win {j : Job} (ok : JOk j) (s n : Nat) : cameN j (s + n) ≤ cameN j s + up n j.p := by
  have hp := ok.p1
  have l := le_up (n := n) hp
  obtain ⟨d, hd⟩ : ∃ d, s + j.p * up n j.p = (s + n) + d := ⟨j.p * up n j.p - n, by omega⟩
  have m := cameN_mono ok (s := s + n) d
  rw [← hd] at m
  refine Nat.le_trans m (Nat.le_of_eq ?_)
  unfold cameN
  rw [Nat.add_mul_div_left _ _ (by omega), Nat.add_mul_mod_self_left]
  omega
theorem cumA_win {js : List Job} (ok : ∀ j ∈ js, JOk j) (L s n : Nat) : cumA js L (s + n) ≤ cumA js L s + load (js.take L) n := by
  unfold cumA load
  have ok' : ∀ j ∈ js.take L, JOk j := fun j hj => ok j (List.mem_of_mem_take hj)
  generalize js.take L = l at ok'
  induction l with
  | nil => exact Nat.le_refl _
  | cons j l ih =>
    have a := ih fun k hk => ok' k (List.mem_cons_of_mem _ hk)
    have b := Nat.mul_le_mul_left j.r (cameN_win (ok' j List.mem_cons_self) s n)
    rw [Nat.mul_add] at b
    rw [List.map_cons, List.map_cons, List.map_cons, List.sum_cons, List.sum_cons, List.sum_cons]
    omega
theorem cumA_succ {js : List Job} {i : Nat} {j : Job} (h : js[i]? = some j) (u : Nat) : cumA js (i + 1) u = cumA js i u + j.r * cameN j u := by
  unfold cumA
  rw [List.take_add_one, h, List.map_append, List.sum_append]
  simp
theorem sumT_succ {js : List Job} {i x u : Nat} (h : (lefts js u)[i]? = some x) : sumT js (i + 1) u = sumT js i u + x := by
  unfold sumT
  rw [List.take_add_one, h, List.sum_append]
  simp
theorem sumT_zero (js : List Job) (L : Nat) : sumT js L 0 = 0 := by
  show ((List.replicate js.length 0).take L).sum = 0
  rw [List.take_replicate, List.sum_replicate_nat]
  simp
/-- the last time at which nothing of the level is left -/
theorem last_zero (js : List Job) (L : Nat) : ∀ a, ∃ s, s ≤ a ∧ sumT js L s = 0 ∧ ∀ u, s < u → u ≤ a → 0 < sumT js L u
  | 0 => ⟨0, Nat.le_refl _, sumT_zero js L, fun u h1 h2 => by omega⟩
  | a + 1 => by
    by_cases h : sumT js L (a + 1) = 0
    · exact ⟨a + 1, Nat.le_refl _, h, fun u h1 h2 => by omega⟩
    · obtain ⟨s, h1, h2, h3⟩ := last_zero js L a
      refine ⟨s, by omega, h2, fun u k1 k2 => ?_⟩
      by_cases e : u = a + 1
      · rw [e]; omega
      · exact h3 u k1 (by omega)
theorem take_le : ∀ {a b : List Nat}, Le a b → ∀ L, (a.take L).sum ≤ (b.take L).sum
  | _, _, .nil, L => Nat.le_refl _
  | _, _, .cons h t, 0 => by simp
  | _, _, .cons h t, L + 1 => by
    rw [List.take_succ_cons, List.take_succ_cons, List.sum_cons, List.sum_cons]
    have := take_le t L
    omega
theorem le_arr (t : Nat) : ∀ {js : List Job} {l : List Nat}, l.length = js.length → Le l (arr js t l)
  | [], [], _ => .nil
  | [], _ :: _, h => by cases h
  | _ :: _, [], h => by cases h
  | j :: js, x :: l, h => by
    refine .cons ?_ (le_arr t (by simpa using h))
    unfold come1
    split <;> omega
theorem sum_ge {l : List Nat} {i x : Nat} (h : l[i]? = some x) : x ≤ (l.take (i + 1)).sum := by
  rw [List.take_add_one, h, List.sum_append]
  simp
/-- what comes at a is done R ticks later -/
theorem resp_bound {js : List Job} (ok : ∀ j ∈ js, JOk j) {i a R : Nat} {j : Job} (hj : js[i]? = some j) (hc : comes j a = true) (h0 : (lefts js a)[i]? = some 0) (hR1 : 1 ≤ R) (hRp : R ≤ j.p) (hw : wk js i R ≤ R) : ∃ e, a < e ∧ e ≤ a + R ∧ (lefts js e)[i]? = some 0 := by
  refine Classical.byContradiction fun no => ?_
  have pos : ∀ u, a < u → u ≤ a + R → ∃ x, (lefts js u)[i]? = some (x + 1) := fun u h1 h2 => by
    have hi := (List.getElem?_eq_some_iff.mp hj).1
    obtain ⟨y, hy⟩ : ∃ y, (lefts js u)[i]? = some y := ⟨_, List.getElem?_eq_getElem (by rw [lefts_len]; exact hi)⟩
    cases y with
    | zero => exact absurd ⟨u, h1, h2, hy⟩ no
    | succ y => exact ⟨y, hy⟩
  have jk := ok j (List.mem_of_getElem? hj)
  obtain ⟨s, hs, hz, hl⟩ := last_zero js i a
  have hwk : j.r + load (js.take i) R ≤ R := by
    have e : jobAt js i = j := jobAt_get hj
    unfold wk at hw
    rw [e] at hw
    exact hw
  -- up to a the jobs above run
  have b1 : ∀ m, s + m < a → 0 < ((arr js (s + m) (lefts js (s + m))).take i).sum := fun m hm => by
    have h1 := hl (s + m + 1) (by omega) (by omega)
    have h2 : sumT js i (s + m + 1) ≤ ((arr js (s + m) (lefts js (s + m))).take i).sum := take_le (runL_le _) i
    omega
  by_cases hsa : s + R ≤ a
  · have b := busy ok (L := i) (s := s) R fun m hm => b1 m (by omega)
    have w := cumA_win ok i s R
    have := jk.r1
    omega
  · have p1 := busy ok (L := i) (s := s) (a - s) fun m hm => b1 m (by omega)
    rw [show s + (a - s) = a by omega] at p1
    have p2 := busy ok (L := i + 1) (s := a) (s + R - a) fun m hm => by
      have hi := (List.getElem?_eq_some_iff.mp hj).1
      rcases Nat.eq_zero_or_pos m with z | z
      · subst z
        have g := arr_get (t := a) hj h0
        have e : come1 a j 0 = j.r := by unfold come1; rw [if_pos hc]; omega
        rw [e] at g
        exact Nat.lt_of_lt_of_le (show 0 < j.r from jk.r1) (sum_ge g)
      · obtain ⟨x, hx⟩ := pos (a + m) (by omega) (by omega)
        have h1 := sum_ge hx
        have h2 := take_le (le_arr (a + m) (lefts_len js (a + m))) (i + 1)
        omega
    rw [show a + (s + R - a) = s + R by omega, cumA_succ hj, cumA_succ hj, sumT_succ h0] at p2
    obtain ⟨x, hx⟩ := pos (s + R) (by omega) (by omega)
    rw [sumT_succ hx] at p2
    have w := cumA_win ok i s R
    have c := cameN_win jk a (s + R - a)
    rw [show a + (s + R - a) = s + R by omega] at c
    have u1 : up (s + R - a) j.p = 1 := up_one (by omega) (by omega)
    rw [u1] at c
    have c2 := Nat.mul_le_mul_left j.r c
    rw [Nat.mul_add, Nat.mul_one] at c2
    omega
end K7

set_option Elab.async false
set_option linter.all false
set_option maxRecDepth 100000
set_option maxHeartbeats 4000000
namespace K7
open PySem PySem.Spec L2
/-! ### what follows: no miss at any offsets, the worst at offsets 0 -/
theorem rowF_least {js : List Job} {i : Nat} {j : Job} (e : jobAt js i = j) (hj : JOk j) : ∀ {f x : Nat}, 25 ≤ x + f → x ≤ wk js i x → 1 ≤ x → (∀ t, 1 ≤ t → wk js i t ≤ t → x ≤ t) →
    ∃ y, (rowF js i f x).getLast? = some y ∧ 1 ≤ y ∧ (∀ t, 1 ≤ t → wk js i t ≤ t → y ≤ t) ∧ (y ≤ j.p → wk js i y = y)
  | 0, x, hf, hw, h1, hx => by
    have := hj.p2
    exact ⟨x, rfl, h1, hx, fun h => by omega⟩
  | f + 1, x, hf, hw, h1, hx => by
    rw [rowF, e]
    by_cases hp : x ≤ j.p
    · rw [if_pos hp]
      by_cases he : wk js i x = x
      · rw [if_pos he]
        exact ⟨x, rfl, h1, hx, fun _ => he⟩
      · rw [if_neg he]
        obtain ⟨y, hy, hl⟩ := rowF_least e hj (f := f) (x := wk js i x) (by omega) (wk_mono hw) (by omega) fun t t1 t2 => Nat.le_trans (wk_mono (hx t t1 t2)) t2
        refine ⟨y, ?_, hl⟩
        rw [List.getLast?_cons, hy]
        rfl
    · rw [if_neg hp]
      exact ⟨x, rfl, h1, hx, fun h => absurd h hp⟩
theorem rowL_least {js : List Job} {i : Nat} (hj : JOk (jobAt js i)) : ∃ y, (rowL js i).getLast? = some y ∧ 1 ≤ y ∧ (∀ t, 1 ≤ t → wk js i t ≤ t → y ≤ t) ∧ (y ≤ (jobAt js i).p → wk js i y = y) := by
  have := hj.r1
  exact rowF_least rfl hj (by omega) (wk_ge _ _ _) hj.r1 fun t _ h => Nat.le_trans (wk_ge js i t) h
theorem zero_stays {js : List Job} {i : Nat} {j : Job} (hj : js[i]? = some j) {e : Nat} (h0 : (lefts js e)[i]? = some 0) : ∀ n, (∀ u, e ≤ u → u < e + n → comes j u = false) → (lefts js (e + n))[i]? = some 0
  | 0, _ => h0
  | n + 1, h => by
    have ih := zero_stays hj h0 n fun u h1 h2 => h u h1 (by omega)
    have g := arr_get (t := e + n) hj ih
    have c : come1 (e + n) j 0 = 0 := by unfold come1; rw [if_neg (by rw [h (e + n) (by omega) (by omega)]; decide)]
    rw [c] at g
    obtain ⟨r1, r2⟩ := run_at _ i 0 g
    exact r2 fun z => absurd (r1 z).1 (by omega)
theorem comes_once {j : Job} (ok : JOk j) {a u : Nat} (h : comes j a = true) (h1 : a < u) (h2 : u < a + j.p) : comes j u = false := by
  unfold comes at h ⊢
  rw [beq_iff_eq] at h
  rw [beq_eq_false_iff_ne]
  intro z
  have e : (u - a) % j.p = 0 := Nat.sub_mod_eq_zero_of_mod_eq (z.trans h.symm)
  rw [Nat.mod_eq_of_lt (by omega)] at e
  omega
theorem missF_some {t : Nat} : ∀ {js : List Job} {l : List Nat} {s m : Nat}, missF t s js l = some m → ∃ i j x, m = s + i ∧ js[i]? = some j ∧ l[i]? = some x ∧ comes j t = true ∧ 0 < x
  | [], l, s, m, h => by cases l <;> cases h
  | _ :: _, [], s, m, h => by cases h
  | j :: js, x :: l, s, m, h => by
    have h : (if comes j t = true ∧ 0 < x then some s else missF t (s + 1) js l) = some m := h
    by_cases c : comes j t = true ∧ 0 < x
    · rw [if_pos c] at h
      cases h
      exact ⟨0, j, x, rfl, rfl, rfl, c.1, c.2⟩
    · rw [if_neg c] at h
      obtain ⟨i, j', x', e, h1, h2, h3, h4⟩ := missF_some h
      exact ⟨i + 1, j', x', by omega, by simpa using h1, by simpa using h2, h3, h4⟩
def AllOk (js : List Job) : Prop := ∀ i, i < js.length → Feas js i
theorem no_miss {js : List Job} (ok : ∀ j ∈ js, JOk j) (hf : AllOk js) : ∀ T, NoM js T
  | 0 => fun t h => by omega
  | T + 1 => by
    have n := no_miss ok hf T
    refine n.succ ?_
    cases hm : miss js T (lefts js T) with
    | none => rfl
    | some m =>
      exfalso
      obtain ⟨i, j, x, _, hj, hx, hc, hx0⟩ := missF_some hm
      have jk := ok j (List.mem_of_getElem? hj)
      have hi := (List.getElem?_eq_some_iff.mp hj).1
      have hc' := hc
      unfold comes at hc'
      rw [beq_iff_eq] at hc'
      have key : (lefts js T)[i]? = some 0 := by
        by_cases hT : T < j.p
        · have e : T = j.o := by rw [← hc', Nat.mod_eq_of_lt hT]
          have z := zero_stays hj (e := 0) (by show (List.replicate js.length 0)[i]? = some 0; rw [List.getElem?_replicate, if_pos hi]) T fun u _ h2 => by
            unfold comes
            rw [beq_eq_false_iff_ne, Nat.mod_eq_of_lt (by omega)]
            omega
          rw [Nat.zero_add] at z
          exact z
        · obtain ⟨a, rfl⟩ : ∃ a, T = a + j.p := ⟨T - j.p, by omega⟩
          have hp := jk.p1
          have ca : comes j a = true := by
            unfold comes
            rw [beq_iff_eq, ← hc', Nat.add_mod_right]
          obtain ⟨y, hy⟩ : ∃ y, (lefts js a)[i]? = some y := ⟨_, List.getElem?_eq_getElem (by rw [lefts_len]; exact hi)⟩
          have y0 := paired_ix (missF_none (lefts_len js a) (n a (by omega))) hj hy ca
          subst y0
          obtain ⟨R, h1, h2, h3⟩ := hf i hi
          rw [jobAt_get hj] at h2
          obtain ⟨e, e1, e2, e3⟩ := resp_bound ok hj ca hy h1 h2 h3
          have z := zero_stays hj e3 (a + j.p - e) fun u h1 h2 => comes_once jk ca (by omega) (by omega)
          rw [show e + (a + j.p - e) = a + j.p by omega] at z
          exact z
      rw [hx] at key
      have := Option.some.inj key
      omega
/-! ### offsets 0 -/
theorem cameN_zero {j : Job} (ok : JOk j) (h : j.o = 0) (e : Nat) : cameN j e = up e j.p := by
  have hp := ok.p1
  unfold cameN up
  rw [h]
  have d := Nat.div_add_mod e j.p
  have m := Nat.mod_lt e (show 0 < j.p by omega)
  generalize e / j.p = q at d ⊢
  generalize e % j.p = s at d m ⊢
  by_cases z : 0 < s
  · rw [if_pos z, show e + j.p - 1 = j.p * q + (s - 1 + j.p) by omega, Nat.mul_add_div (by omega), Nat.add_div_right _ (by omega), Nat.div_eq_of_lt (by omega)]
  · rw [if_neg z, show e + j.p - 1 = j.p * q + (j.p - 1) by omega, Nat.mul_add_div (by omega), Nat.div_eq_of_lt (by omega)]
theorem run_zero : ∀ (b : List Nat) (i : Nat), runW b = some i → ((runL b).take i).sum = 0
  | [], i, h => by cases h
  | 0 :: b, 0, _ => by simp
  | 0 :: b, i + 1, h => by
    have h : (runW b).map (· + 1) = some (i + 1) := h
    obtain ⟨y, hy, z⟩ := Option.map_eq_some_iff.mp h
    obtain rfl : y = i := by omega
    show ((0 :: runL b).take (y + 1)).sum = 0
    rw [List.take_succ_cons, List.sum_cons, run_zero b y hy]
  | (x + 1) :: b, i, h => by
    have h : some 0 = some i := h
    cases h
    simp
theorem least_of {p : Nat → Prop} : ∀ n, (∃ e, 1 ≤ e ∧ e ≤ n ∧ p e) → ∃ e, 1 ≤ e ∧ e ≤ n ∧ p e ∧ ∀ u, 1 ≤ u → u < e → ¬ p u
  | 0, ⟨e, h1, h2, _⟩ => by omega
  | n + 1, h => by
    by_cases k : ∃ e, 1 ≤ e ∧ e ≤ n ∧ p e
    · obtain ⟨e, h1, h2, h3, h4⟩ := least_of n k
      exact ⟨e, h1, by omega, h3, h4⟩
    · obtain ⟨e, h1, h2, h3⟩ := h
      refine ⟨e, h1, h2, h3, fun u k1 k2 k3 => k ⟨u, k1, by omega, k3⟩⟩
def AtZero (js : List Job) : Prop := ∀ j ∈ js, j.o = 0
/-- the first of the jobs at i ends at e, and e is the row's last -/
theorem sync {js : List Job} (ok : ∀ j ∈ js, JOk j) (hz : AtZero js) {i : Nat} {j : Job} (hj : js[i]? = some j) (nm : NoM js (j.p + 1)) :
    ∃ e, 1 ≤ e ∧ e ≤ j.p ∧ (lefts js e)[i]? = some 0 ∧ (∀ u, 1 ≤ u → u < e → (lefts js u)[i]? ≠ some 0) ∧ wk js i e = e := by
  have jk := ok j (List.mem_of_getElem? hj)
  have hi := (List.getElem?_eq_some_iff.mp hj).1
  have hp := jk.p1
  have jo := hz j (List.mem_of_getElem? hj)
  have cp : comes j j.p = true := by unfold comes; rw [beq_iff_eq, Nat.mod_self, jo]
  obtain ⟨y, hy⟩ : ∃ y, (lefts js j.p)[i]? = some y := ⟨_, List.getElem?_eq_getElem (by rw [lefts_len]; exact hi)⟩
  have y0 := paired_ix (missF_none (lefts_len js j.p) (nm j.p (by omega))) hj hy cp
  subst y0
  obtain ⟨e, e1, e2, e3, e4⟩ := least_of (p := fun u => (lefts js u)[i]? = some 0) j.p ⟨j.p, hp, Nat.le_refl _, hy⟩
  refine ⟨e, e1, e2, e3, e4, ?_⟩
  have pos : ∀ m, m < e → ∃ x, (arr js m (lefts js m))[i]? = some (x + 1) := fun m hm => by
    obtain ⟨y, hy⟩ : ∃ y, (lefts js m)[i]? = some y := ⟨_, List.getElem?_eq_getElem (by rw [lefts_len]; exact hi)⟩
    have g := arr_get (t := m) hj hy
    rcases Nat.eq_zero_or_pos m with z | z
    · subst z
      have c0 : comes j 0 = true := by unfold comes; rw [beq_iff_eq, Nat.zero_mod, jo]
      have : come1 0 j y = (y + j.r - 1) + 1 := by unfold come1; rw [if_pos c0]; have := jk.r1; omega
      rw [this] at g
      exact ⟨_, g⟩
    · have hne := e4 m z hm
      rw [hy] at hne
      have : come1 m j y = (come1 m j y - 1) + 1 := by
        have : y ≠ 0 := fun w => hne (by rw [w])
        unfold come1
        split <;> omega
      rw [this] at g
      exact ⟨_, g⟩
  have b := busy ok (L := i + 1) (s := 0) e fun m hm => by
    rw [Nat.zero_add]
    obtain ⟨x, hx⟩ := pos m hm
    exact Nat.lt_of_lt_of_le (Nat.succ_pos x) (sum_ge hx)
  rw [Nat.zero_add, sumT_zero, cumA_succ hj, cumA_succ hj] at b
  have c0 : ∀ k, cumA js k 0 = 0 := fun k => by
    unfold cumA
    have : ∀ l : List Job, (l.map fun j => j.r * cameN j 0).sum = 0 := fun l => by
      induction l with
      | nil => rfl
      | cons j l ih => rw [List.map_cons, List.sum_cons, ih]; unfold cameN; simp
    exact this _
  have cj : cameN j 0 = 0 := by unfold cameN; simp
  have ce : cameN j e = 1 := by rw [cameN_zero jk jo, up_one e1 e2]
  have ca : cumA js i e = load (js.take i) e := by
    unfold cumA load
    refine congrArg List.sum (List.map_congr_left fun k hk => ?_)
    rw [cameN_zero (ok k (List.mem_of_mem_take hk)) (hz k (List.mem_of_mem_take hk))]
  -- nothing of the level is left at e
  have se : sumT js (i + 1) e = 0 := by
    obtain ⟨m, rfl⟩ : ∃ m, e = m + 1 := ⟨e - 1, by omega⟩
    obtain ⟨x, hx⟩ := pos m (Nat.lt_succ_self m)
    obtain ⟨r1, r2⟩ := run_at _ i (x + 1) hx
    have hw : runW (arr js m (lefts js m)) = some i := Classical.byContradiction fun w => by
      have : (lefts js (m + 1))[i]? = some (x + 1) := r2 w
      rw [e3] at this
      have := Option.some.inj this
      omega
    rw [sumT_succ e3]
    exact run_zero _ i hw
  rw [se, c0, ce, cj, ca] at b
  unfold wk
  rw [jobAt_get hj]
  omega
/-- the row's last is the first end -/
theorem last_sync {js : List Job} (ok : ∀ j ∈ js, JOk j) (hz : AtZero js) {i : Nat} {j : Job} (hj : js[i]? = some j) (nm : NoM js (j.p + 1)) {y : Nat} (hy : (rowL js i).getLast? = some y) :
    1 ≤ y ∧ y ≤ j.p ∧ wk js i y = y ∧ (lefts js y)[i]? = some 0 ∧ ∀ u, 1 ≤ u → u < y → (lefts js u)[i]? ≠ some 0 := by
  have jk := ok j (List.mem_of_getElem? hj)
  have hi := (List.getElem?_eq_some_iff.mp hj).1
  have ej := jobAt_get hj
  obtain ⟨y', hy', y1, ymin, yfix⟩ := rowL_least (js := js) (i := i) (by rw [ej]; exact jk)
  rw [hy] at hy'
  cases hy'
  rw [ej] at yfix
  obtain ⟨e, e1, e2, e3, e4, e5⟩ := sync ok hz hj nm
  have ye := ymin e e1 (by omega)
  have yw := yfix (by omega)
  have jo := hz j (List.mem_of_getElem? hj)
  have c0 : comes j 0 = true := by unfold comes; rw [beq_iff_eq, Nat.zero_mod, jo]
  have l0 : (lefts js 0)[i]? = some 0 := by show (List.replicate js.length 0)[i]? = some 0; rw [List.getElem?_replicate, if_pos hi]
  obtain ⟨e', k1, k2, k3⟩ := resp_bound ok hj c0 l0 y1 (by omega) (by omega)
  have : e = y := by
    rcases Nat.lt_or_ge e' e with z | z
    · exact absurd k3 (e4 e' (by omega) z)
    · omega
  subst this
  exact ⟨e1, e2, e5, e3, e4⟩
/-- without a miss at offsets 0 each job is feasible -/
theorem feas_of {js : List Job} (ok : ∀ j ∈ js, JOk j) (hz : AtZero js) (h : IsFM js none) : AllOk js := fun i hi => by
  have hj := List.getElem?_eq_getElem hi
  obtain ⟨e, e1, e2, _, _, e5⟩ := sync ok hz hj fun t _ => h t
  exact ⟨e, e1, by rw [jobAt_get hj]; exact e2, by omega⟩
end K7

set_option Elab.async false
set_option linter.all false
set_option maxRecDepth 100000
set_option maxHeartbeats 4000000
namespace K7
open PySem PySem.Spec PyProof.Rows L2 GX NdefX
def spLNums (K : PySem.W.Frag) : Sp := fun vs H Q _ => ∃ (a : Addr) (ns : List Int), vs = [.ref a] ∧ SqL K H a (ns.map V.int) ∧ ns.length ≤ 63 ∧
  ∀ D H' l, Same H H' → H D = none → H' D = some (.lst (nts l)) → l.length ≤ 4000 → Q (.ref D) H'
section
variable {P : Program} {w : World} {K : PySem.W.Frag} {mg : Str → Option Value} {base : Heap}
theorem ok_lnums {f : Addr} {fd : FuncData} {k : Nat} (F : Fun K "_law_numbers" "_law_numbers" s__law_numbers f fd) (B : Bl mg) : FnOk P w K mg base CX0 (k + 1) f fd ["script"] (spLNums K) := by
  refine F.ok sc__law_numbers (fun vs H Q E h => ?_) (fun cdv A outer s H vs Q E hr h => ?_)
  · obtain ⟨a, ns, rfl, _⟩ := h
    rfl
  · obtain ⟨a, ns, rfl, hq, hl, q⟩ := h
    refine ⟨_, pss_cons (ps_set (i := 1) sc__law_numbers.nd rfl (.inl rfl) (pe_lst pa_nil))
      (pss_cons (ps_for PassesOwn.never rfl (pi_range1 (by rfl) B.range (pa_cons (pe_callB (call_min2 rfl) (by rfl) B.min (by decide +kernel) (pa_cons (pe_callB call_len (by rfl) B.len PySem.boot_len (pa_cons (pv 0) pa_nil)) (pa_cons pe_int pa_nil))) pa_nil)) (pg_name (i := 2) sc__law_numbers.nd rfl (.inl rfl))
        (pss_cons (ps_set (i := 3) sc__law_numbers.nd rfl (.inl rfl) (pe_callTy call_int1 (by rfl) B.int (by decide +kernel) (pa_cons (pe_ix (r := rIxL K) ix_list (pv 0) (pv 2) (fun _ _ => rfl)) pa_nil)))
        (pss_cons (ps_set (i := 4) sc__law_numbers.nd rfl (.inl rfl) pe_int)
        (pss_cons (ps_if (pt_cmpR op_lt (pv 3) pe_int (nomark _)) (pss_cons (ps_set (i := 3) sc__law_numbers.nd rfl (.inl rfl) (pe_op op_sub pe_int (pv 3))) (pss_one (ps_set (i := 4) sc__law_numbers.nd rfl (.inl rfl) pe_int))) pss_nil)
        (pss_one (ps_if (pt_cmpR op_ge (pv 3) (pe_op op_pow pe_int pe_int) (nomark _))
          (pss_one (ps_for PassesOwn.never rfl (pi_range1 (by rfl) B.range (pa_cons pe_int pa_nil)) (pg_name (i := 5) sc__law_numbers.nd rfl (.inl rfl))
            (pss_one (ps_if (pt_cmpR op_gt (pv 3) pe_int (nomark _))
              (pss_cons (ps_expr (pe_bm PySem.F.plainAttrs_list PySem.F.slot_list_append PySem.F.type_list_append mt_append (pv 1) (pa_cons (pe_op op_modN (pe_callTy call_int1 (by rfl) B.int (by decide +kernel) (pa_cons (pv 3) pa_nil)) pe_int) pa_nil)))
              (pss_one (ps_set (i := 3) sc__law_numbers.nd rfl (.inl rfl) (pe_op op_fdivN (pv 3) pe_int)))) pss_nil))))
          (pss_cons (ps_set (i := 6) sc__law_numbers.nd rfl (.inl rfl) (pe_op op_modN (pe_callTy call_int1 (by rfl) B.int (by decide +kernel) (pa_cons (pe_op op_add (pe_op op_add (pe_op op_add (pe_mul (pv 3) pe_int) (pe_mul (pv 2) pe_int)) (pe_mul (pv 4) pe_int)) pe_int) pa_nil)) pe_int))
          (pss_one (ps_for PassesOwn.never rfl (pi_range1 (by rfl) B.range (pa_cons pe_int pa_nil)) (pg_name (i := 5) sc__law_numbers.nd rfl (.inl rfl))
            (pss_cons (ps_set (i := 6) sc__law_numbers.nd rfl (.inl rfl) (pe_op op_modN (pe_callTy call_int1 (by rfl) B.int (by decide +kernel) (pa_cons (pe_op op_add (pe_op op_add (pe_mul (pv 6) pe_int) (pe_mul (pe_callTy call_int1 (by rfl) B.int (by decide +kernel) (pa_cons (pe_op op_fdivN (pv 6) pe_int) pa_nil)) (pv 5))) pe_int) pa_nil)) pe_int))
            (pss_one (ps_expr (pe_bm PySem.F.plainAttrs_list PySem.F.slot_list_append PySem.F.type_list_append mt_append (pv 1) (pa_cons (pe_op op_modN (pe_callTy call_int1 (by rfl) B.int (by decide +kernel) (pa_cons (pe_op op_fdivN (pv 6) pe_int) pa_nil)) pe_int) pa_nil))))))))))))))
      (pss_cons (ps_expr (pe_bm0 PySem.F.plainAttrs_list PySem.F.slot_list_reverse PySem.F.type_list_reverse mt_reverse (pv 1)))
      (pss_one (ps_ret (pv 1))))), ?_⟩
    refine ⟨Nat.zero_le _, fun D nD => ?_⟩
    refine ⟨.ref a, rfl, .ref a, ns.length, rfl, .inl ⟨_, Same.seq (same_upd nD) hq, by rw [List.length_map]⟩, (ns.length : Int), 63, rfl, ?_⟩
    rw [if_neg (by omega)]
    refine ⟨(ns.length : Int), rfl, by omega, by omega, ?_⟩
    refine for_range (D := { nx := _, rt := Q }) (fun i σ H' => (∃ c2 c3 c4 c5 c6, σ = [some (.ref a), some (.ref D), c2, c3, c4, c5, c6]) ∧ Same H H' ∧ ∃ l, H' D = some (.lst (nts l)) ∧ l.length ≤ 45 * i) ?_ ?_ ?_
    · exact ⟨⟨_, _, _, _, _, rfl⟩, same_upd nD, [], upd_same, Nat.le_refl _⟩
    · rintro i σ H2 hi ⟨⟨c2, c3, c4, c5, c6, rfl⟩, s2, l, e2, hl2⟩
      have hi : i < ns.length := by
        have : i < ((ns.length : Int)).toNat := hi
        omega
      have ei : (0 : Int) + i = i := Int.zero_add _
      refine ⟨.ref a, rfl, _, rfl, a, _, _, .int ns[i], rfl, rfl, Same.seq s2 hq, by rw [ei]; refine atI_nat ?_; rw [List.getElem?_map, List.getElem?_eq_getElem hi]; rfl, .inl ⟨ns[i], rfl, ?_⟩⟩
      refine ⟨_, rfl, ns[i], 0, rfl, rfl, _, rfl, ?_⟩
      generalize ns[i] = n
      by_cases hneg : n < 0
      · rw [decide_eq_true hneg]
        refine iteT ⟨.int n, rfl, 0, n, rfl, rfl, ?_⟩
        have hc : (0 : Int) ≤ 0 - n := by omega
        refine ⟨.int (0 - n), rfl, 10, 18, rfl, rfl, ⟨by decide, by decide, by decide⟩, (0 - n), _, rfl, rfl, _, rfl, ?_⟩
        by_cases hbig : (10 : Int) ^ (18 : Int).toNat ≤ (0 - n)
        · rw [decide_eq_true hbig]
          refine iteT ⟨45, rfl, by decide, by decide, ?_⟩
          refine for_range (D := { nx := _, rt := Q }) (fun j σ H' => (∃ c' c5, σ = [some (.ref a), some (.ref D), some (.int (0 + (i : Int))), some (.int c'), some (.int 1), c5, c6] ∧ 0 ≤ c') ∧ Same H H' ∧ ∃ l, H' D = some (.lst (nts l)) ∧ l.length ≤ 45 * i + j) ?_ ?_ ?_
          · exact ⟨⟨_, _, rfl, hc⟩, s2, l, e2, hl2⟩
          · rintro j σ H3 hj ⟨⟨c', c5, rfl, hc'⟩, s3, l, e3, hl3⟩
            have hj : j < 45 := hj
            refine ⟨.int c', rfl, c', 0, rfl, rfl, _, rfl, ?_⟩
            by_cases hpos : (0 : Int) < c'
            · rw [decide_eq_true hpos]
              refine iteT ⟨.ref D, rfl, .inl ⟨rfl, _, sqL e3⟩, .int c', rfl, .inl ⟨c', rfl, c', 60, rfl, rfl, (by show (60 : Int) ≠ 0; decide), D, _, _, rfl, rfl, e3, by rw [nts_len, sizeLine_eq]; omega, .int c', rfl, c', 60, rfl, rfl, ⟨by decide, by decide⟩, ?_⟩⟩
              have hm := fmod_nn (a := c') (b := 60) hc' (by decide)
              refine ⟨⟨_, _, rfl, (fdiv_nn hc' (by decide)).1⟩, fun b o e => ?_, l ++ [(c'.fmod 60).toNat], ?_, ?_⟩
              · rw [upd_ne (ne_of_none e nD)]
                exact s3 _ _ e
              · rw [upd_same, nts_snoc _ hm.1]
              · rw [List.length_append, List.length_singleton]
                omega
            · rw [decide_eq_false hpos]
              exact iteF ⟨⟨_, _, rfl, hc'⟩, s3, l, e3, by omega⟩
          · rintro σ H3 ⟨⟨c', c5, rfl, hc'⟩, s3, l, e3, hl3⟩
            have hl3 : l.length ≤ 45 * i + 45 := hl3
            exact ⟨⟨_, _, _, _, _, rfl⟩, s3, l, e3, by omega⟩
        · rw [decide_eq_false hbig]
          have hbig : ¬ (1000000000000000000 : Int) ≤ (0 - n) := hbig
          refine iteF ⟨.int (0 - n), rfl, (0 - n), 16807, rfl, rfl, ⟨by omega, by omega⟩, _, rfl, _, 7919, rfl, rfl, ⟨by omega, by omega⟩, _, _, rfl, rfl, .int 1, rfl, 1, 104729, rfl, rfl, ⟨by omega, by omega⟩, _, _, rfl, rfl, _, _, rfl, rfl, .inl ⟨_, rfl, _, 2147483629, rfl, rfl, (by show (2147483629 : Int) ≠ 0; decide), 7, rfl, by decide, by decide, ?_⟩⟩
          have hs := fmod_nn (a := (0 - n) * 16807 + (0 + (i : Int)) * 7919 + 1 * 104729 + 11) (b := 2147483629) (by omega) (by decide)
          refine for_range (D := { nx := _, rt := Q }) (fun j σ H' => (∃ c5 sd, σ = [some (.ref a), some (.ref D), some (.int (0 + (i : Int))), some (.int (0 - n)), some (.int 1), c5, some (.int sd)] ∧ 0 ≤ sd ∧ sd < 2147483629) ∧ Same H H' ∧ ∃ l, H' D = some (.lst (nts l)) ∧ l.length ≤ 45 * i + j) ?_ ?_ ?_
          · exact ⟨⟨_, _, rfl, hs⟩, s2, l, e2, hl2⟩
          · rintro j σ H3 hj ⟨⟨c5, sd, rfl, h0, h1⟩, s3, l, e3, hl3⟩
            have hj : j < 7 := hj
            have hd := fdiv_nn (a := sd) (b := 1000) h0 (by decide)
            refine ⟨.int sd, rfl, sd, 39373, rfl, rfl, ⟨by omega, by omega⟩, .int sd, rfl, sd, 1000, rfl, rfl, ⟨by decide, by decide⟩, .inl ⟨_, rfl, _, rfl, _, _, rfl, rfl, ⟨by omega, by omega⟩, _, _, rfl, rfl, _, _, rfl, rfl, .inl ⟨_, rfl, _, 2147483629, rfl, rfl, (by show (2147483629 : Int) ≠ 0; decide), ?_⟩⟩⟩
            have hp : 0 ≤ sd.fdiv 1000 * (0 + (j : Int)) := Int.mul_nonneg hd.1 (by omega)
            have hs2 := fmod_nn (a := sd * 39373 + sd.fdiv 1000 * (0 + (j : Int)) + 7919) (b := 2147483629) (by omega) (by decide)
            have hd2 := fdiv_nn (a := (sd * 39373 + sd.fdiv 1000 * (0 + (j : Int)) + 7919).fmod 2147483629) (b := 7) hs2.1 (by decide)
            have hm2 := fmod_nn (a := ((sd * 39373 + sd.fdiv 1000 * (0 + (j : Int)) + 7919).fmod 2147483629).fdiv 7) (b := 55440) hd2.1 (by decide)
            refine ⟨.ref D, rfl, .inl ⟨rfl, _, sqL e3⟩, _, rfl, _, 7, rfl, rfl, ⟨by decide, by decide⟩, .inl ⟨_, rfl, _, 55440, rfl, rfl, (by show (55440 : Int) ≠ 0; decide), D, _, _, rfl, rfl, e3, by rw [nts_len, sizeLine_eq]; omega, ?_⟩⟩
            refine ⟨⟨_, _, rfl, hs2⟩, fun b o e => ?_, l ++ [((((sd * 39373 + sd.fdiv 1000 * (0 + (j : Int)) + 7919).fmod 2147483629).fdiv 7).fmod 55440).toNat], ?_, ?_⟩
            · rw [upd_ne (ne_of_none e nD)]
              exact s3 _ _ e
            · rw [upd_same]
              exact congrArg (fun l => some (HO.lst l)) (nts_snoc _ hm2.1)
            · rw [List.length_append, List.length_singleton]
              omega
          · rintro σ H3 ⟨⟨c5, sd, rfl, h0, h1⟩, s3, l, e3, hl3⟩
            have hl3 : l.length ≤ 45 * i + 7 := hl3
            exact ⟨⟨_, _, _, _, _, rfl⟩, s3, l, e3, by omega⟩
      · rw [decide_eq_false hneg]
        refine iteF ?_
        have hc : (0 : Int) ≤ n := by omega
        refine ⟨.int n, rfl, 10, 18, rfl, rfl, ⟨by decide, by decide, by decide⟩, n, _, rfl, rfl, _, rfl, ?_⟩
        by_cases hbig : (10 : Int) ^ (18 : Int).toNat ≤ n
        · rw [decide_eq_true hbig]
          refine iteT ⟨45, rfl, by decide, by decide, ?_⟩
          refine for_range (D := { nx := _, rt := Q }) (fun j σ H' => (∃ c' c5, σ = [some (.ref a), some (.ref D), some (.int (0 + (i : Int))), some (.int c'), some (.int 0), c5, c6] ∧ 0 ≤ c') ∧ Same H H' ∧ ∃ l, H' D = some (.lst (nts l)) ∧ l.length ≤ 45 * i + j) ?_ ?_ ?_
          · exact ⟨⟨_, _, rfl, hc⟩, s2, l, e2, hl2⟩
          · rintro j σ H3 hj ⟨⟨c', c5, rfl, hc'⟩, s3, l, e3, hl3⟩
            have hj : j < 45 := hj
            refine ⟨.int c', rfl, c', 0, rfl, rfl, _, rfl, ?_⟩
            by_cases hpos : (0 : Int) < c'
            · rw [decide_eq_true hpos]
              refine iteT ⟨.ref D, rfl, .inl ⟨rfl, _, sqL e3⟩, .int c', rfl, .inl ⟨c', rfl, c', 60, rfl, rfl, (by show (60 : Int) ≠ 0; decide), D, _, _, rfl, rfl, e3, by rw [nts_len, sizeLine_eq]; omega, .int c', rfl, c', 60, rfl, rfl, ⟨by decide, by decide⟩, ?_⟩⟩
              have hm := fmod_nn (a := c') (b := 60) hc' (by decide)
              refine ⟨⟨_, _, rfl, (fdiv_nn hc' (by decide)).1⟩, fun b o e => ?_, l ++ [(c'.fmod 60).toNat], ?_, ?_⟩
              · rw [upd_ne (ne_of_none e nD)]
                exact s3 _ _ e
              · rw [upd_same, nts_snoc _ hm.1]
              · rw [List.length_append, List.length_singleton]
                omega
            · rw [decide_eq_false hpos]
              exact iteF ⟨⟨_, _, rfl, hc'⟩, s3, l, e3, by omega⟩
          · rintro σ H3 ⟨⟨c', c5, rfl, hc'⟩, s3, l, e3, hl3⟩
            have hl3 : l.length ≤ 45 * i + 45 := hl3
            exact ⟨⟨_, _, _, _, _, rfl⟩, s3, l, e3, by omega⟩
        · rw [decide_eq_false hbig]
          have hbig : ¬ (1000000000000000000 : Int) ≤ n := hbig
          refine iteF ⟨.int n, rfl, n, 16807, rfl, rfl, ⟨by omega, by omega⟩, _, rfl, _, 7919, rfl, rfl, ⟨by omega, by omega⟩, _, _, rfl, rfl, .int 0, rfl, 0, 104729, rfl, rfl, ⟨by omega, by omega⟩, _, _, rfl, rfl, _, _, rfl, rfl, .inl ⟨_, rfl, _, 2147483629, rfl, rfl, (by show (2147483629 : Int) ≠ 0; decide), 7, rfl, by decide, by decide, ?_⟩⟩
          have hs := fmod_nn (a := n * 16807 + (0 + (i : Int)) * 7919 + 0 * 104729 + 11) (b := 2147483629) (by omega) (by decide)
          refine for_range (D := { nx := _, rt := Q }) (fun j σ H' => (∃ c5 sd, σ = [some (.ref a), some (.ref D), some (.int (0 + (i : Int))), some (.int n), some (.int 0), c5, some (.int sd)] ∧ 0 ≤ sd ∧ sd < 2147483629) ∧ Same H H' ∧ ∃ l, H' D = some (.lst (nts l)) ∧ l.length ≤ 45 * i + j) ?_ ?_ ?_
          · exact ⟨⟨_, _, rfl, hs⟩, s2, l, e2, hl2⟩
          · rintro j σ H3 hj ⟨⟨c5, sd, rfl, h0, h1⟩, s3, l, e3, hl3⟩
            have hj : j < 7 := hj
            have hd := fdiv_nn (a := sd) (b := 1000) h0 (by decide)
            refine ⟨.int sd, rfl, sd, 39373, rfl, rfl, ⟨by omega, by omega⟩, .int sd, rfl, sd, 1000, rfl, rfl, ⟨by decide, by decide⟩, .inl ⟨_, rfl, _, rfl, _, _, rfl, rfl, ⟨by omega, by omega⟩, _, _, rfl, rfl, _, _, rfl, rfl, .inl ⟨_, rfl, _, 2147483629, rfl, rfl, (by show (2147483629 : Int) ≠ 0; decide), ?_⟩⟩⟩
            have hp : 0 ≤ sd.fdiv 1000 * (0 + (j : Int)) := Int.mul_nonneg hd.1 (by omega)
            have hs2 := fmod_nn (a := sd * 39373 + sd.fdiv 1000 * (0 + (j : Int)) + 7919) (b := 2147483629) (by omega) (by decide)
            have hd2 := fdiv_nn (a := (sd * 39373 + sd.fdiv 1000 * (0 + (j : Int)) + 7919).fmod 2147483629) (b := 7) hs2.1 (by decide)
            have hm2 := fmod_nn (a := ((sd * 39373 + sd.fdiv 1000 * (0 + (j : Int)) + 7919).fmod 2147483629).fdiv 7) (b := 55440) hd2.1 (by decide)
            refine ⟨.ref D, rfl, .inl ⟨rfl, _, sqL e3⟩, _, rfl, _, 7, rfl, rfl, ⟨by decide, by decide⟩, .inl ⟨_, rfl, _, 55440, rfl, rfl, (by show (55440 : Int) ≠ 0; decide), D, _, _, rfl, rfl, e3, by rw [nts_len, sizeLine_eq]; omega, ?_⟩⟩
            refine ⟨⟨_, _, rfl, hs2⟩, fun b o e => ?_, l ++ [((((sd * 39373 + sd.fdiv 1000 * (0 + (j : Int)) + 7919).fmod 2147483629).fdiv 7).fmod 55440).toNat], ?_, ?_⟩
            · rw [upd_ne (ne_of_none e nD)]
              exact s3 _ _ e
            · rw [upd_same]
              exact congrArg (fun l => some (HO.lst l)) (nts_snoc _ hm2.1)
            · rw [List.length_append, List.length_singleton]
              omega
          · rintro σ H3 ⟨⟨c5, sd, rfl, h0, h1⟩, s3, l, e3, hl3⟩
            have hl3 : l.length ≤ 45 * i + 7 := hl3
            exact ⟨⟨_, _, _, _, _, rfl⟩, s3, l, e3, by omega⟩
    · rintro σ H2 ⟨⟨c2, c3, c4, c5, c6, rfl⟩, s2, l, e2, hl2⟩
      have hl2 : l.length ≤ 45 * ((ns.length : Int)).toNat := hl2
      refine ⟨.ref D, rfl, .inl ⟨rfl, _, sqL e2⟩, D, _, rfl, rfl, e2, .ref D, rfl, q D _ l.reverse (fun b o e => ?_) nD ?_ ?_⟩
      · rw [upd_ne (ne_of_none e nD)]
        exact s2 _ _ e
      · rw [upd_same]
        unfold nts
        rw [List.map_reverse]
      · rw [List.length_reverse]
        omega
end
def spDraw : Sp := fun vs H Q _ => ∃ (a : Addr) (m : Nat), vs = [.ref a, .int m] ∧ 1 ≤ m ∧ NumsAt H a ∧ ∀ (H' : Hp) (r : Nat), r < m → SameB a H H' → NumsAt H' a → Q (.int (r : Nat)) H'
def spInt : Sp := fun vs H Q _ => ∃ i : Int, vs = [.int i] ∧ Q (.bl true) H
section
variable {P : Program} {w : World} {K : PySem.W.Frag} {mg : Str → Option Value} {base : Heap}
theorem ok_draw {f : Addr} {fd : FuncData} {k : Nat} (F : Fun K "_law_draw" "_law_draw" s__law_draw f fd) (B : Bl mg) : FnOk P w K mg base CX0 (k + 1) f fd ["numbers", "many"] spDraw := by
  refine F.ok sc__law_draw (fun vs H Q E h => ?_) (fun cdv A outer s H vs Q E hr h => ?_)
  · obtain ⟨a, m, rfl, _⟩ := h
    rfl
  · obtain ⟨a, m, rfl, hm, ⟨l, ea, hl⟩, q⟩ := h
    refine ⟨_, pss_cons (ps_if (pt_cmpR op_eq (pe_callB call_len (by rfl) B.len PySem.boot_len (pa_cons (pv 0) pa_nil)) pe_int (nomark _)) (pss_one (ps_ret pe_int)) pss_nil)
      (pss_one (ps_ret (pe_op op_modN (pe_callTy call_int1 (by rfl) B.int (by decide +kernel) (pa_cons (pe_bm0 PySem.F.plainAttrs_list PySem.F.slot_list_pop PySem.F.type_list_pop mt_pop (pv 0)) pa_nil)) (pv 1)))), ?_⟩
    refine ⟨.ref a, rfl, .ref a, l.length, rfl, .inl ⟨_, sqL ea, (nts_len l).symm⟩, rfl, _, rfl, ?_⟩
    by_cases h0 : l.length = 0
    · rw [decide_eq_true (by rw [h0]; rfl)]
      exact iteT (q H 0 hm SameB.refl ⟨l, ea, hl⟩)
    rw [decide_eq_false (fun e => h0 (by have := V.int.inj e; omega))]
    have hi : l.length - 1 < l.length := by omega
    refine iteF ⟨.ref a, rfl, .inl ⟨rfl, _, sqL ea⟩, a, _, .int (l[l.length - 1]), rfl, rfl, ea, ?_, .inl ⟨_, rfl, .int m, rfl, _, m, rfl, rfl, (by show (m : Int) ≠ 0; omega), ?_⟩⟩
    · rw [nts_len]
      unfold nts
      rw [List.getElem?_map, List.getElem?_eq_getElem hi]
      rfl
    · have hf := fmod_nn (a := ((l[l.length - 1] : Nat) : Int)) (b := m) (by omega) (by omega)
      have z := q (upd H a (.lst (nts l).dropLast)) (((l[l.length - 1] : Nat) : Int).fmod m).toNat (by omega) (fun b o n e => by rw [upd_ne n]; exact e) ⟨l.dropLast, by rw [upd_same]; unfold nts; rw [List.map_dropLast], by rw [List.length_dropLast]; omega⟩
      rw [Int.toNat_of_nonneg hf.1] at z
      exact z
theorem ok_lint {f : Addr} {fd : FuncData} {k : Nat} (F : Fun K "_law_int" "_law_int" s__law_int f fd) (B : Bl mg) : FnOk P w K mg base CX0 (k + 1) f fd ["value"] spInt := by
  refine F.ok sc__law_int (fun vs H Q E h => ?_) (fun cdv A outer s H vs Q E hr h => ?_)
  · obtain ⟨i, rfl, _⟩ := h
    rfl
  · obtain ⟨i, rfl, q⟩ := h
    refine ⟨_, pss_one (ps_ret (pe_and (pe_callB call_isi (by rfl) B.isinstance (by decide +kernel) (pa_cons (pv 0) (pa_cons (pe_bltn (v := .ty "int") (u := .type "int") (by rfl) B.int (by decide +kernel) rfl) pa_nil)))
      (pe_one (pe_not (pe_callB call_isi (by rfl) B.isinstance (by decide +kernel) (pa_cons (pv 0) (pa_cons (pe_bltn (v := .ty "bool") (u := .type "bool") (by rfl) B.bool (by decide +kernel) rfl) pa_nil))))))), ?_⟩
    refine ⟨_, rfl, _, _, .type "int", _, true, rfl, .ty "int", .base (.int i), kit_ty (by decide +kernel), true, rfl, iteT ?_⟩
    exact ⟨_, rfl, _, _, .type "int", _, false, rfl, .ty "bool", .base (.int i), kit_ty (by decide +kernel), _, rfl, q⟩
theorem ok_numsD {k : Nat} (D : Pr P K mg) : FnOk P w K mg base CX0 (k + 1) D._law_numbers.f D._law_numbers.fd ["script"] (spLNums K) := ok_lnums D._law_numbers.F D.B
theorem ok_drawD {k : Nat} (D : Pr P K mg) : FnOk P w K mg base CX0 (k + 1) D._law_draw.f D._law_draw.fd ["numbers", "many"] spDraw := ok_draw D._law_draw.F D.B
theorem ok_intD {k : Nat} (D : Pr P K mg) : FnOk P w K mg base CX0 (k + 1) D._law_int.f D._law_int.fd ["value"] spInt := ok_lint D._law_int.F D.B
end
end K7

set_option Elab.async false
set_option linter.all false
set_option maxRecDepth 100000
set_option maxHeartbeats 4000000
namespace K7
open PySem PySem.Spec PyProof.Rows L2 GX NdefX
/-! ### _law_responses, _law_at -/
def spResps : Sp := fun vs H Q _ => ∃ (a : Addr) (js : List Job) (i : Nat), vs = [.ref a, .int (i : Nat)] ∧ JobsT H a js ∧ (∀ j ∈ js, JOk j) ∧ i < js.length ∧ js.length ≤ 5 ∧ ∀ R H', Same H H' → H R = none → H' R = some (.lst (nts (rowL js i))) → Q (.ref R) H'
theorem load_succ {js : List Job} {i : Nat} {j : Job} (h : js[i]? = some j) (t : Nat) : load (js.take (i + 1)) t = load (js.take i) t + j.r * up t j.p := by
  unfold load
  rw [List.take_add_one, h, List.map_append, List.sum_append]
  simp
/-- the jobs with other offsets -/
def atO (js : List Job) (os : List Nat) : List Job := List.zipWith (fun j o => ⟨j.r, j.p, o⟩) js os
def spAt : Sp := fun vs H Q _ => ∃ (a b : Addr) (js : List Job) (os : List Nat), vs = [.ref a, .ref b] ∧ JobsT H a js ∧ H b = some (.tup (nts os)) ∧ os.length = js.length ∧ js.length ≤ 1000 ∧ ∀ T H', Same H H' → JobsT H' T (atO js os) → Q (.ref T) H'
theorem atO_get {js : List Job} {os : List Nat} {i : Nat} {j : Job} {o : Nat} (hj : js[i]? = some j) (ho : os[i]? = some o) : (atO js os)[i]? = some ⟨j.r, j.p, o⟩ := by
  unfold atO; rw [List.getElem?_zipWith, hj, ho]
theorem atO_len {js : List Job} {os : List Nat} (h : os.length = js.length) : (atO js os).length = js.length := by
  unfold atO; rw [List.length_zipWith, h]; omega
section
variable {P : Program} {w : World} {K : PySem.W.Frag} {mg : Str → Option Value} {base : Heap}
theorem ok_resps {k : Nat} (D : Pr P K mg) : FnOk P w K mg base CX0 (k + 1) D._law_responses.f D._law_responses.fd ["jobs", "place"] spResps := by
  refine D._law_responses.F.ok sc__law_responses (fun vs H Q E h => ?_) (fun cdv A outer s H vs Q E hr h => ?_)
  · obtain ⟨a, js, i, rfl, _⟩ := h
    rfl
  · obtain ⟨a, js, i, rfl, hj, hok, hi, hl, q⟩ := h
    obtain ⟨ts, ha, pt⟩ := id hj
    have lts := jt_len pt
    obtain ⟨b, hb, hji, hbe⟩ := jobs_at pt hi
    have jk := hok _ (List.mem_of_getElem? hji)
    refine ⟨_, (pss_cons (ps_set (i := 2) sc__law_responses.nd rfl (.inl rfl) (pe_lst (pa_cons (pe_ix (r := rIxT K) ix_tup (pe_ix (r := rIxT K) ix_tup (pv 0) (pv 1) (fun _ _ => rfl)) pe_int (fun _ _ => rfl)) pa_nil)))
      (pss_cons (ps_for PassesOwn.never rfl (pi_range1 (by rfl) D.B.range (pa_cons pe_int pa_nil)) (pg_name (i := 3) sc__law_responses.nd rfl (.inl rfl)) (pss_cons (ps_set (i := 4) sc__law_responses.nd rfl (.inl rfl) (pe_ix (r := rIxL K) ix_list (pv 2) (pe_op (r := rSubN) op_SubN (pe_callB call_len (by rfl) D.B.len PySem.boot_len (pa_cons (pv 2) pa_nil)) pe_int) (fun _ _ => rfl))) (pss_cons (ps_if (pt_cmpR op_gt (pv 4) (pe_ix (r := rIxT K) ix_tup (pe_ix (r := rIxT K) ix_tup (pv 0) (pv 1) (fun _ _ => rfl)) pe_int (fun _ _ => rfl)) (nomark _)) (pss_one (ps_ret (pv 2))) pss_nil) (pss_cons (ps_set (i := 5) sc__law_responses.nd rfl (.inl rfl) (pe_ix (r := rIxT K) ix_tup (pe_ix (r := rIxT K) ix_tup (pv 0) (pv 1) (fun _ _ => rfl)) pe_int (fun _ _ => rfl))) (pss_cons (ps_for PassesOwn.never rfl (pi_range1 (by rfl) D.B.range (pa_cons (pv 1) pa_nil)) (pg_name (i := 6) sc__law_responses.nd rfl (.inl rfl)) (pss_one (ps_set (i := 5) sc__law_responses.nd rfl (.inl rfl) (pe_op (r := rAddN) op_AddN (pv 5) (pe_op (r := rMultN) op_MultN (pe_ix (r := rIxT K) ix_tup (pe_ix (r := rIxT K) ix_tup (pv 0) (pv 6) (fun _ _ => rfl)) pe_int (fun _ _ => rfl)) (pe_callTy call_int1 (by rfl) D.B.int (by decide +kernel) (pa_cons (pe_op (r := rFloorDivN) op_FloorDivN (pe_op (r := rSubN) op_SubN (pe_op (r := rAddN) op_AddN (pv 4) (pe_ix (r := rIxT K) ix_tup (pe_ix (r := rIxT K) ix_tup (pv 0) (pv 6) (fun _ _ => rfl)) pe_int (fun _ _ => rfl))) pe_int) (pe_ix (r := rIxT K) ix_tup (pe_ix (r := rIxT K) ix_tup (pv 0) (pv 6) (fun _ _ => rfl)) pe_int (fun _ _ => rfl))) pa_nil))))))) (pss_cons (ps_if (pt_cmpR op_eq (pv 5) (pv 4) (nomark _)) (pss_one (ps_ret (pv 2))) pss_nil) (pss_one (ps_expr (pe_bm PySem.F.plainAttrs_list PySem.F.slot_list_append PySem.F.type_list_append mt_append (pv 2) (pa_cons (pv 5) pa_nil))))))))))
      (pss_one (ps_ret (pv 2))))), ?_⟩
    refine ⟨.ref a, rfl, .int i, rfl, a, ts, i, .ref b, rfl, rfl, sqT ha, atI_nat hb, b, _, 0, _, rfl, rfl, sqT hbe, atI_nat (j := 0) rfl, by show 1 ≤ sizeLine; decide, fun R nR => ?_⟩
    have sR := same_upd nR (o := .lst [.int ((jobAt js i).r : Nat)])
    refine ⟨200, rfl, by decide, by decide, ?_⟩
    refine forRg (D := { nx := _, rt := Q }) (n := 200) (fun T σ H' => (∃ c3 c4 c5 c6, σ = [some (.ref a), some (.int (i : Nat)), some (.ref R), c3, c4, c5, c6]) ∧ Same H H' ∧ ∃ pre x, H' R = some (.lst (nts (pre ++ [x]))) ∧ rowL js i = pre ++ rowF js i (30 - T) x ∧ T + 1 ≤ x ∧ x ≤ wk js i x ∧ T ≤ 25 ∧ pre.length = T) ⟨⟨_, _, _, _, rfl⟩, sR, [], (jobAt js i).r, upd_same, rfl, by have := jk.r1; omega, wk_ge _ _ _, by decide, rfl⟩ ?_ ?_
    · rintro T σ H2 hT ⟨⟨c3, c4, c5, c6, rfl⟩, s2, pre, x, eR, er, x1, xw, T25, pl⟩
      have ha2 := s2 _ _ ha
      have hbe2 := s2 _ _ hbe
      have p2 := jk.p2
      have ln : (nts (pre ++ [x])).length = T + 1 := by rw [nts_len, List.length_append, pl]; rfl
      have hx : (pre ++ [x])[T]? = some x := by rw [← pl]; simp
      refine ⟨_, rfl, .ref R, rfl, .ref R, T + 1, rfl, .inl ⟨_, sqL eR, ln.symm⟩, T + 1, 1, rfl, rfl, by omega, R, _, T, _, rfl, rfl, sqL eR, atI_nat (nts_at hx), ?_⟩
      refine ⟨_, rfl, .ref a, rfl, .int i, rfl, a, ts, i, .ref b, rfl, rfl, sqT ha2, atI_nat hb, b, _, 1, _, rfl, rfl, sqT hbe2, atI_nat (j := 1) rfl, (x : Nat), ((jobAt js i).p : Nat), rfl, rfl, _, rfl, ?_⟩
      by_cases hp : x ≤ (jobAt js i).p
      rotate_left
      · have e : rowF js i (30 - T) x = [x] := by
          cases 30 - T with
          | zero => rfl
          | succ f => rw [rowF, if_neg hp]
        exact iteTq (decide_eq_true (by omega)) ⟨_, rfl, q R H2 s2 nR (by rw [er, e]; exact eR)⟩
      refine iteFq (decide_eq_false (by omega)) ?_
      refine ⟨.ref a, rfl, .int i, rfl, a, ts, i, .ref b, rfl, rfl, sqT ha2, atI_nat hb, b, _, 0, _, rfl, rfl, sqT hbe2, atI_nat (j := 0) rfl, .int i, rfl, (i : Nat), rfl, by omega, by omega, ?_⟩
      refine forRg (D := { nx := _, rt := Q }) (n := i) (fun m σ H' => (∃ c6, σ = [some (.ref a), some (.int (i : Nat)), some (.ref R), some (.int (T : Nat)), some (.int (x : Nat)), some (.int (((jobAt js i).r + load (js.take m) x : Nat) : Int)), c6]) ∧ H' = H2) ⟨⟨_, rfl⟩, rfl⟩ ?_ ?_
      · rintro m σ H3 hm ⟨⟨c6, rfl⟩, rfl⟩
        obtain ⟨b2, hb2, hj2, hbe3⟩ := jobs_at (pt.same s2) (show m < js.length by omega)
        have jk2 := hok _ (List.mem_of_getElem? hj2)
        have q1 := jk2.p1; have q2 := jk2.p2; have q3 := jk2.r2
        refine ⟨_, rfl, .ref a, rfl, .int m, rfl, a, ts, m, .ref b2, rfl, rfl, sqT ha2, atI_nat hb2, b2, _, 0, _, rfl, rfl, sqT hbe3, atI_nat (j := 0) rfl, _, rfl, .ref a, rfl, .int m, rfl, a, ts, m, .ref b2, rfl, rfl, sqT ha2, atI_nat hb2, b2, _, 1, _, rfl, rfl, sqT hbe3, atI_nat (j := 1) rfl, x, (jobAt js m).p, rfl, rfl, x + (jobAt js m).p, 1, rfl, rfl, by omega, ?_⟩
        refine ⟨.ref a, rfl, .int m, rfl, a, ts, m, .ref b2, rfl, rfl, sqT ha2, atI_nat hb2, b2, _, 1, _, rfl, rfl, sqT hbe3, atI_nat (j := 1) rfl, x + (jobAt js m).p - 1, (jobAt js m).p, rfl, rfl, q1, by omega, .inl ⟨_, rfl, (jobAt js m).r, _, rfl, rfl, by omega, _, _, rfl, rfl, ⟨some (.int (m : Nat)), ?_⟩, rfl⟩⟩
        rw [load_succ hj2, ← Nat.add_assoc]
        rfl
      · rintro σ H3 ⟨⟨c6, rfl⟩, rfl⟩
        have ewk : (jobAt js i).r + load (js.take i) x = wk js i x := rfl
        rw [ewk]
        refine ⟨_, rfl, _, rfl, rfl, _, rfl, ?_⟩
        obtain ⟨f, hf⟩ : ∃ f, 30 - T = f + 1 := ⟨29 - T, by omega⟩
        by_cases he : wk js i x = x
        · have e : rowF js i (30 - T) x = [x] := by rw [hf, rowF, if_pos hp, if_pos he]
          exact iteTq (decide_eq_true (by rw [he])) ⟨_, rfl, q R H3 s2 nR (by rw [er, e]; exact eR)⟩
        · have e : rowF js i (30 - T) x = x :: rowF js i (30 - (T + 1)) (wk js i x) := by rw [hf, rowF, if_pos hp, if_neg he, show 30 - (T + 1) = f by omega]
          refine iteFq (decide_eq_false (fun z => he (by injection z with z; exact_mod_cast z))) ⟨.ref R, rfl, .inl ⟨rfl, _, sqL eR⟩, _, rfl, R, _, _, rfl, rfl, eR, by rw [ln, sizeLine_eq]; omega, ⟨_, _, _, _, rfl⟩, fun b o e => by rw [upd_ne (ne_of_none e nR)]; exact s2 _ _ e, pre ++ [x], wk js i x, by rw [upd_same, nts_app (pre ++ [x])]; rfl, by rw [er, e]; simp, by omega, wk_mono xw, by omega, by rw [List.length_append, pl]; rfl⟩
    · rintro σ H2 ⟨_, _, pre, x, _, _, _, _, T25, _⟩
      omega
theorem ok_at {k : Nat} (D : Pr P K mg) : FnOk P w K mg base CX0 (k + 1) D._law_at.f D._law_at.fd ["jobs", "offsets"] spAt := by
  refine D._law_at.F.ok sc__law_at (fun vs H Q E h => ?_) (fun cdv A outer s H vs Q E hr h => ?_)
  · obtain ⟨a, b, js, os, rfl, _⟩ := h
    rfl
  · obtain ⟨a, b, js, os, rfl, hj, hb, hol, hl, q⟩ := h
    obtain ⟨ts, ha, pt⟩ := id hj
    have lts := jt_len pt
    refine ⟨_, (pss_one (ps_ret (pe_callTy call_tuple_of (by rfl) D.B.tuple (by decide +kernel) (pa_cons (pe_lc (own := [("t", 2)]) (g := (gName 2)) (tt := tYes) rfl sc__law_at.nd (pi_range1 (by rfl) D.B.range (pa_cons (pe_callB call_len (by rfl) D.B.len PySem.boot_len (pa_cons (pv 0) pa_nil)) pa_nil)) (blkOk_by (own := [("t", 2)]) (N := n__law_at) (sc := defScope s__law_at) (by decide +kernel)) (fun _ _ _ _ _ => (pg_name (i := 2) sc__law_at.nd rfl (.inl rfl))) (fun _ _ _ _ _ => pts_nil) (fun _ _ _ _ _ => (pe_tup (pa_cons (pe_ix (r := rIxT K) ix_tup (pe_ix (r := rIxT K) ix_tup (pv 0) (pv 2) (fun _ _ => rfl)) pe_int (fun _ _ => rfl)) (pa_cons (pe_ix (r := rIxT K) ix_tup (pe_ix (r := rIxT K) ix_tup (pv 0) (pv 2) (fun _ _ => rfl)) pe_int (fun _ _ => rfl)) (pa_cons (pe_ix (r := rIxT K) ix_tup (pv 1) (pv 2) (fun _ _ => rfl)) pa_nil)))))) pa_nil)))), ?_⟩
    refine ⟨.ref a, rfl, .ref a, js.length, rfl, .inr ⟨_, sqT ha, lts.symm⟩, (js.length : Nat), rfl, by omega, by omega, ?_⟩
    refine lcRngP (n := js.length) (fun i H y => ∀ j, (atO js os)[i]? = some j → TupT H y (jv j)) (fun i H H' x s h j e => (h j e).same s) (fun D i H x us ys e _ h j ej => tup_upd e (h j ej)) (by omega) (fun Dl i H2 Qk Qn hi s2 nDl eDl hk => ?_) (fun Dl H2 us nDl s2 eDl pu => ?_)
    · obtain ⟨j, c, hji, hx, hc⟩ := jobs_got pt (List.getElem?_eq_getElem (show i < ts.length by omega))
      have hci : ts[i]? = some (.ref c) := by rw [List.getElem?_eq_getElem (show i < ts.length by omega), hx]
      obtain ⟨o, ho⟩ : ∃ o, os[i]? = some o := ⟨_, List.getElem?_eq_getElem (by omega)⟩
      have ha2 := s2 _ _ ha
      have hc2 := s2 _ _ hc
      have hb2 := s2 _ _ hb
      refine ⟨rfl, iteT (B := Qn H2) ⟨.ref a, rfl, .int i, rfl, a, ts, i, .ref c, rfl, rfl, sqT ha2, atI_nat hci, c, _, 0, _, rfl, rfl, sqT hc2, atI_nat (j := 0) rfl, .ref a, rfl, .int i, rfl, a, ts, i, .ref c, rfl, rfl, sqT ha2, atI_nat hci, c, _, 1, _, rfl, rfl, sqT hc2, atI_nat (j := 1) rfl, .ref b, rfl, .int i, rfl, b, _, i, _, rfl, rfl, sqT hb2, atI_nat (nts_at ho), by show 3 ≤ sizeLine; decide, fun U nU => hk _ _ (fun j2 e2 => ?_) (same_upd nU)⟩⟩
      rw [atO_get hji ho] at e2
      cases e2
      exact ⟨U, rfl, upd_same⟩
    · have pu2 : TupsT H2 us ((atO js os).map jv) := paired_map (g := jv) (paired_range pu (atO_len hol).symm fun i x j hj h => h j hj)
      exact ⟨Dl, us, rfl, .inl ⟨sqL eDl, fun l nl => q l _ (s2.trans (same_upd nl)) ⟨us, upd_same, pu2.same (same_upd nl)⟩⟩⟩
end
end K7

set_option Elab.async false
set_option linter.all false
set_option maxRecDepth 100000
set_option maxHeartbeats 4000000
namespace K7
open PySem PySem.Spec PyProof.Rows L2 GX NdefX
/-! ### _law_common, _law_offsets -/
theorem zeros_of {ts : List V} : ∀ {n : Nat}, Paired (fun (x : V) (_ : Nat) => x = V.int 0) ts (List.range n) → ts = nts (List.replicate n 0) := fun {n} p => by
  have e := paired_eq (g := fun _ => V.int 0) p
  rw [e]
  unfold nts
  rw [List.map_replicate, List.map_const', List.length_range]
  rfl
theorem same_bl {L : Addr} {H H1 H2 : Hp} (s : Same H H1) (k : SameB L H1 H2) (nL : H L = none) : Same H H2 := fun b o e => k b o (ne_of_none e nL) (s b o e)
def spCommon : Sp := fun vs H Q _ => ∃ (a : Addr) (js : List Job), vs = [.ref a] ∧ JobsT H a js ∧ (∀ j ∈ js, JOk j) ∧ js.length ≤ 1000 ∧ (∃ c0, 1 ≤ c0 ∧ c0 ≤ 30 ∧ ∀ j ∈ js, j.p ∣ c0) ∧
  ∀ H' c, Same H H' → 1 ≤ c → (∀ j ∈ js, j.p ∣ c) → (∀ c0, 1 ≤ c0 → (∀ j ∈ js, j.p ∣ c0) → c ≤ c0) → Q (.int (c : Nat)) H'
/-- all choices of offsets -/
def more (cs : List (List Nat)) (p : Nat) : List (List Nat) := cs.flatMap fun c => (List.range p).map fun o => c ++ [o]
def allO (js : List Job) : List (List Nat) := js.foldl (fun cs j => more cs j.p) [[]]
theorem allO_snoc (js : List Job) (j : Job) : allO (js ++ [j]) = more (allO js) j.p := by
  unfold allO; rw [List.foldl_append]; rfl
theorem more_mem {cs : List (List Nat)} {p : Nat} {d : List Nat} : d ∈ more cs p ↔ ∃ c ∈ cs, ∃ o, o < p ∧ d = c ++ [o] := by
  unfold more
  rw [List.mem_flatMap]
  refine ⟨fun ⟨c, hc, h⟩ => ?_, fun ⟨c, hc, o, ho, e⟩ => ⟨c, hc, List.mem_map.mpr ⟨o, List.mem_range.mpr ho, e.symm⟩⟩⟩
  obtain ⟨o, ho, e⟩ := List.mem_map.mp h
  exact ⟨c, hc, o, List.mem_range.mp ho, e.symm⟩
theorem more_len (cs : List (List Nat)) (p : Nat) : (more cs p).length = cs.length * p := by
  unfold more
  rw [List.length_flatMap]
  induction cs with
  | nil => simp
  | cons c cs ih => rw [List.map_cons, List.sum_cons, ih, List.length_map, List.length_range, List.length_cons, Nat.succ_mul]; omega
/-- a choice has an offset for each job, below its period -/
theorem allO_fit {js : List Job} : ∀ {os : List Nat}, os ∈ allO js → Paired (fun o (j : Job) => o < j.p) os js := by
  suffices h : ∀ n, ∀ os, os ∈ allO (js.take n) → Paired (fun o (j : Job) => o < j.p) os (js.take n) by
    intro os hos
    have := h js.length os (by rw [List.take_length]; exact hos)
    rw [List.take_length] at this
    exact this
  intro n
  induction n with
  | zero =>
    intro os hos
    have hos : os ∈ [([] : List Nat)] := hos
    rw [List.mem_singleton.mp hos]
    exact .nil
  | succ n ih =>
    intro os hos
    by_cases hn : n < js.length
    · have e : js.take (n + 1) = js.take n ++ [js[n]] := by rw [List.take_add_one, List.getElem?_eq_getElem hn]; rfl
      rw [e, allO_snoc] at hos
      obtain ⟨c, hc, o, ho, rfl⟩ := more_mem.mp hos
      rw [e]
      exact paired_snoc (ih c hc) ho
    · rw [List.take_of_length_le (by omega)] at hos ⊢
      rw [List.take_of_length_le (by omega)] at ih
      exact ih os hos
/-- all 0 is a choice -/
theorem allO_zero {js : List Job} (ok : ∀ j ∈ js, JOk j) : List.replicate js.length 0 ∈ allO js := by
  suffices h : ∀ n, n ≤ js.length → List.replicate n 0 ∈ allO (js.take n) by
    have := h js.length (Nat.le_refl _)
    rw [List.take_length] at this
    exact this
  intro n
  induction n with
  | zero => intro _; exact List.mem_singleton.mpr rfl
  | succ n ih =>
    intro hn
    have e : js.take (n + 1) = js.take n ++ [js[n]] := by rw [List.take_add_one, List.getElem?_eq_getElem (by omega)]; rfl
    rw [e, allO_snoc]
    exact more_mem.mpr ⟨_, ih (by omega), 0, (ok _ (List.getElem_mem (by omega))).p1, by rw [List.replicate_succ']⟩
theorem allO_len {js : List Job} (h : ∀ j ∈ js, j.p ≤ 24) : ∀ n, (allO (js.take n)).length ≤ 24 ^ n
  | 0 => by show ([[]] : List (List Nat)).length ≤ 1; exact Nat.le_refl _
  | n + 1 => by
    by_cases hn : n < js.length
    · have e : js.take (n + 1) = js.take n ++ [js[n]] := by rw [List.take_add_one, List.getElem?_eq_getElem hn]; rfl
      rw [e, allO_snoc, more_len, Nat.pow_succ]
      exact Nat.mul_le_mul (allO_len h n) (h _ (List.getElem_mem hn))
    · rw [List.take_of_length_le (by omega)]
      have := allO_len h n
      rw [List.take_of_length_le (by omega)] at this
      exact Nat.le_trans this (Nat.pow_le_pow_right (by decide) (by omega))
def spOffs : Sp := fun vs H Q _ => ∃ (a : Addr) (js : List Job), vs = [.ref a] ∧ JobsT H a js ∧ (∀ j ∈ js, JOk j) ∧ js.length ≤ 3 ∧ ∀ R H' us, Same H H' → H R = none → H' R = some (.lst us) → TupsT H' us ((allO js).map nts) → Q (.ref R) H'
section
variable {P : Program} {w : World} {K : PySem.W.Frag} {mg : Str → Option Value} {base : Heap}
theorem ok_common {k : Nat} (D : Pr P K mg) : FnOk P w K mg base CX0 (k + 1) D._law_common.f D._law_common.fd ["jobs"] spCommon := by
  refine D._law_common.F.ok sc__law_common (fun vs H Q E h => ?_) (fun cdv A outer s H vs Q E hr h => ?_)
  · obtain ⟨a, js, rfl, _⟩ := h
    rfl
  · obtain ⟨a, js, rfl, hj, hok, hjl, ⟨c0, c1', c60, cd⟩, q⟩ := h
    obtain ⟨ts, ha, pt⟩ := id hj
    have lts := jt_len pt
    refine ⟨_, (pss_cons (ps_for PassesOwn.never rfl (pi_range2 (by rfl) D.B.range (pa_cons pe_int (pa_cons pe_int pa_nil))) (pg_name (i := 1) sc__law_common.nd rfl (.inr rfl)) (pss_one (ps_if (pt_cmpR op_eq (pe_callB call_len (by rfl) D.B.len PySem.boot_len (pa_cons (pe_lc (own := [("job", 2)]) (g := (gName 2)) rfl sc__law_common.nd (pi_tup (pv 0)) (blkOk_by (own := [("job", 2)]) (N := n__law_common) (sc := defScope s__law_common) (by decide +kernel)) (fun _ _ _ _ _ => (pg_name (i := 2) sc__law_common.nd rfl (.inl rfl))) (fun _ _ _ _ _ => (pts_one (pt_cmpR op_ne (pe_op (r := rModN) op_ModN (pe_callTy call_int1 (by rfl) D.B.int (by decide +kernel) (pa_cons (pv 1) pa_nil)) (pe_ix (r := rIxT K) ix_tup (pv 2) pe_int (fun _ _ => rfl))) pe_int (nomark _)))) (fun _ _ _ _ _ => (pv 2))) pa_nil)) pe_int (nomark _)) (pss_one (ps_ret (pv 1))) pss_nil)))
      (pss_one (ps_ret pe_int))), ?_⟩
    refine ⟨1, 31, rfl, by decide, forRgL (lo := 1) (n := 30) (D := { nx := _, rt := Q }) (fun i σ H' => (∃ c1 c2, σ = [some (.ref a), c1, c2]) ∧ Same H H' ∧ ∀ c, 1 ≤ c → c < i + 1 → ¬ ∀ j ∈ js, j.p ∣ c) ⟨⟨_, _, rfl⟩, Same.refl _, fun c h1 h2 => by omega⟩ ?_ ?_⟩
    · rintro i σ H2 hi ⟨⟨c1, c2, rfl⟩, s2, hno⟩
      have ha2 := s2 _ _ ha
      refine ⟨.ref a, rfl, a, rfl, ⟨_, sqT ha2⟩, fun Dl nDl => lcPred (n := ts.length) (fun x => decide ((1 + i) % (jobAt js x).p ≠ 0)) (fun _ _ _ => True) (fun _ _ _ _ _ h => h) (fun _ _ _ _ _ _ h => h) nDl (by omega) (fun x H3 h s => ⟨ts, ts[x], sqT (s _ _ ha2), List.getElem?_eq_getElem h⟩) (fun H3 s => ⟨ts, sqT (s _ _ ha2), Nat.le_refl _⟩) ?_ ?_⟩
      · rintro x y H3 H4 Qk Qn hx s3 eD ⟨rfl, hy⟩ hk1 hk2
        have hxy := hy ts (sqT (s3 _ _ ha2))
        obtain ⟨j, b, hj', rfl, hb⟩ := jobs_got pt hxy
        have jk := hok j (List.mem_of_getElem? hj')
        have hb3 := s3 _ _ (s2 _ _ hb)
        have ej := jobAt_get hj'
        refine ⟨rfl, _, rfl, .inl ⟨_, rfl, _, rfl, b, _, 1, _, rfl, rfl, sqT hb3, atI_nat (j := 1) rfl, 1 + i, j.p, rfl, rfl, jk.p1, rfl, _, rfl, ?_⟩⟩
        by_cases z : (1 + i) % j.p = 0
        · refine iteFq (by rw [z]; rfl) (hk2 _ ?_ (Same.refl _))
          show decide ((1 + i) % (jobAt js x).p ≠ 0) = false
          rw [ej]
          exact decide_eq_false (fun y => y z)
        · refine iteTq ?_ ⟨_, rfl, hk1 _ _ ?_ trivial (Same.refl _)⟩
          · rw [decide_eq_false (fun y => z (by injection y with y; exact_mod_cast y))]; rfl
          · show decide ((1 + i) % (jobAt js x).p ≠ 0) = true
            rw [ej]
            exact decide_eq_true z
      · intro H3 us s3 eD pu
        have lu := pu.length
        refine ⟨.ref Dl, us.length, rfl, .inl ⟨_, sqL eD, rfl⟩, rfl, _, rfl, ?_⟩
        by_cases z : us.length = 0
        · refine iteTq (decide_eq_true (by rw [z]; rfl)) ⟨_, rfl, q H3 (1 + i) (s2.trans s3) (by omega) (fun j hj => ?_) fun c0 h1 h2 => ?_⟩
          · rw [z] at lu
            have em := List.eq_nil_of_length_eq_zero lu.symm
            obtain ⟨x, hx⟩ := List.mem_iff_getElem?.mp hj
            have hxl : x < ts.length := by rw [lts]; exact (List.getElem?_eq_some_iff.mp hx).1
            have := (List.filter_eq_nil_iff.mp em) x (List.mem_range.mpr hxl)
            rw [decide_eq_true_iff, jobAt_get hx] at this
            exact Nat.dvd_of_mod_eq_zero (Decidable.not_not.mp this)
          · rcases Nat.lt_or_ge c0 (i + 1) with y | y
            · exact absurd h2 (hno c0 h1 y)
            · omega
        · refine iteFq (decide_eq_false (fun y => z (by injection y with y; exact_mod_cast y))) ⟨⟨_, _, rfl⟩, s2.trans s3, fun c h1 h2 => ?_⟩
          by_cases e : c < i + 1
          · exact hno c h1 e
          · obtain rfl : c = 1 + i := by omega
            intro hd
            have : (List.range ts.length).filter (fun x => decide ((1 + i) % (jobAt js x).p ≠ 0)) = [] := by
              refine List.filter_eq_nil_iff.mpr fun x hx => ?_
              have hx := List.mem_range.mp hx
              rw [lts] at hx
              rw [decide_eq_true_iff, jobAt_get (List.getElem?_eq_getElem hx)]
              exact fun y => y (Nat.mod_eq_zero_of_dvd (hd _ (List.getElem_mem hx)))
            rw [this] at lu
            exact z lu
    · rintro σ H2 ⟨⟨c1, c2, rfl⟩, s2, hno⟩
      exact absurd cd (hno c0 c1' (by omega))
theorem ok_offs {k : Nat} (D : Pr P K mg) : FnOk P w K mg base CX0 (k + 1) D._law_offsets.f D._law_offsets.fd ["jobs"] spOffs := by
  refine D._law_offsets.F.ok sc__law_offsets (fun vs H Q E h => ?_) (fun cdv A outer s H vs Q E hr h => ?_)
  · obtain ⟨a, js, rfl, _⟩ := h
    rfl
  · obtain ⟨a, js, rfl, hj, hok, hl, q⟩ := h
    obtain ⟨ts, ha, pt⟩ := id hj
    have lts := jt_len pt
    refine ⟨_, (pss_cons (ps_set (i := 1) sc__law_offsets.nd rfl (.inl rfl) (pe_lst (pa_cons (pe_tup pa_nil) pa_nil)))
      (pss_cons (ps_for PassesOwn.never rfl (pi_tup (pv 0)) (pg_name (i := 2) sc__law_offsets.nd rfl (.inl rfl)) (pss_cons (ps_set (i := 3) sc__law_offsets.nd rfl (.inl rfl) (pe_lst pa_nil)) (pss_cons (ps_for PassesOwn.never rfl (pi_list (pv 1)) (pg_name (i := 4) sc__law_offsets.nd rfl (.inl rfl)) (pss_one (ps_for PassesOwn.never rfl (pi_range1 (by rfl) D.B.range (pa_cons (pe_ix (r := rIxT K) ix_tup (pv 2) pe_int (fun _ _ => rfl)) pa_nil)) (pg_name (i := 5) sc__law_offsets.nd rfl (.inl rfl)) (pss_one (ps_expr (pe_bm PySem.F.plainAttrs_list PySem.F.slot_list_append PySem.F.type_list_append mt_append (pv 3) (pa_cons (pe_op (r := rCatA K) op_catA (pv 4) (pe_tup (pa_cons (pv 5) pa_nil))) pa_nil))))))) (pss_one (ps_set (i := 1) sc__law_offsets.nd rfl (.inl rfl) (pe_callTy call_list_of (by rfl) D.B.list (by decide +kernel) (pa_cons (pv 3) pa_nil)))))))
      (pss_one (ps_ret (pv 1))))), ?_⟩
    refine ⟨Nat.zero_le _, fun U nU => ⟨by show 1 ≤ sizeLine; decide, fun R nR => ?_⟩⟩
    have sU := same_upd nU (o := .tup [])
    have sR := same_upd nR (o := .lst [.ref U])
    have eU := sR _ _ (show (upd H U (.tup [])) U = some (.tup []) from upd_same)
    refine ⟨.ref a, rfl, a, rfl, ⟨_, sqT (sR _ _ (sU _ _ ha))⟩, ?_⟩
    refine forTt (D := { nx := _, rt := Q }) (fun i σ H' => ∃ R us, (∃ c2 c3 c4 c5, σ = [some (.ref a), some (.ref R), c2, c3, c4, c5]) ∧ Same H H' ∧ H R = none ∧ H' R = some (.lst us) ∧ TupsT H' us ((allO (js.take i)).map nts)) (sR _ _ (sU _ _ ha)) ⟨R, [.ref U], ⟨_, _, _, _, rfl⟩, sU.trans sR, sU.free nR, upd_same, .cons ⟨U, rfl, eU⟩ .nil⟩ (fun i σ H' o p e => ?_) ?_ ?_
    · rw [sR _ _ (sU _ _ ha)] at e
      cases e
      obtain ⟨_, _, _, s', _⟩ := p
      exact s' _ _ ha
    · rintro i y σ H2 hy ⟨R, us, ⟨c2, c3, c4, c5, rfl⟩, s2, nRH, eR, pu⟩
      obtain ⟨j, b, hj', rfl, hb⟩ := jobs_got pt hy
      have jk := hok j (List.mem_of_getElem? hj')
      have hi : i < js.length := (List.getElem?_eq_some_iff.mp hj').1
      have lcs := allO_len (js := js) (fun j hj => (hok j hj).p2) i
      have p3 : 24 ^ i ≤ 24 ^ 2 := Nat.pow_le_pow_right (by decide) (by omega)
      have e2 : 24 ^ 2 = 576 := by decide
      have lus : us.length = (allO (js.take i)).length := by have := pu.length; rw [List.length_map] at this; exact this
      have jp1 := jk.p1
      have jp2 := jk.p2
      refine ⟨Nat.zero_le _, fun R2 nR2 => ?_⟩
      have s2R := same_upd nR2 (o := .lst [])
      have nR2H := s2.free nR2
      have nRR : R ≠ R2 := ne_of_none eR nR2
      refine ⟨.ref R, rfl, R, rfl, ⟨_, sqL (s2R _ _ eR)⟩, ?_⟩
      refine forLs (D := { nx := _, rt := Q }) (xs := us) (fun m σ H' => (∃ c4 c5, σ = [some (.ref a), some (.ref R), some (.ref b), some (.ref R2), c4, c5]) ∧ Same H2 H' ∧ ∃ vs, H' R2 = some (.lst vs) ∧ TupsT H' vs ((more ((allO (js.take i)).take m) j.p).map nts)) (s2R _ _ eR) ⟨⟨_, _, rfl⟩, s2R, [], upd_same, .nil⟩ (fun m σ H' h => h.2.1 _ _ eR) ?_ ?_
      · rintro m x σ H3 hx ⟨⟨c4, c5, rfl⟩, s3, vs, eV, pv⟩
        obtain ⟨vs0, d, hv0, rfl, hd⟩ := tups_got (pu.same s3) hx
        rw [List.getElem?_map] at hv0
        obtain ⟨c, hc, rfl⟩ := Option.map_eq_some_iff.mp hv0
        have hm : m < us.length := (List.getElem?_eq_some_iff.mp hx).1
        have hb3 := s3 _ _ (s2 _ _ hb)
        refine ⟨.ref b, rfl, b, _, 1, _, rfl, rfl, sqT hb3, atI_nat (j := 1) rfl, (j.p : Nat), rfl, by omega, by omega, ?_⟩
        have cl : c.length ≤ 3 := by
          have hf := (allO_fit (List.mem_of_getElem? hc)).length
          rw [List.length_take] at hf
          omega
        refine forRg (D := { nx := _, rt := Q }) (n := j.p) (fun o σ H' => (∃ c5, σ = [some (.ref a), some (.ref R), some (.ref b), some (.ref R2), some (.ref d), c5]) ∧ Same H2 H' ∧ ∃ vs, H' R2 = some (.lst vs) ∧ TupsT H' vs ((more ((allO (js.take i)).take m) j.p ++ (List.range o).map fun o => c ++ [o]).map nts)) ⟨⟨_, rfl⟩, s3, vs, eV, by simpa using pv⟩ ?_ ?_
        · rintro o σ H4 ho ⟨⟨c5, rfl⟩, s4, ws, eW, pw⟩
          have hd4 : H4 d = some (.tup (nts c)) := by
            obtain ⟨vs1, d1, hv1, e1, hd1⟩ := tups_got (pu.same s4) hx
            cases e1
            rw [List.getElem?_map, hc] at hv1
            cases hv1
            exact hd1
          refine ⟨.ref R2, rfl, .inl ⟨rfl, _, sqL eW⟩, .ref d, rfl, .int o, rfl, by show 1 ≤ sizeLine; decide, fun X nX => ?_⟩
          have sX := same_upd nX (o := .tup [.int (o : Nat)])
          refine catA (sX _ _ hd4) upd_same (by rw [nts_len]; show c.length + 1 ≤ 1000; omega) fun Y H5 s5 e5 => ?_
          have s45 := sX.trans s5
          have eW5 := s45 _ _ eW
          have lw := pw.length
          rw [List.length_map, List.length_append, more_len, List.length_map, List.length_range, List.length_take] at lw
          refine ⟨R2, ws, _, rfl, rfl, eW5, ?_, ⟨_, rfl⟩, fun b' o' e => by rw [upd_ne (ne_of_none e nR2)]; exact s45 _ _ (s4 _ _ e), ws ++ [.ref Y], upd_same, ?_⟩
          · rw [lw, sizeLine_eq]
            have : min m (allO (js.take i)).length * j.p ≤ 576 * 24 := Nat.mul_le_mul (by omega) jp2
            omega
          · have el : (more ((allO (js.take i)).take m) j.p ++ (List.range (o + 1)).map fun o => c ++ [o]).map nts = (more ((allO (js.take i)).take m) j.p ++ (List.range o).map fun o => c ++ [o]).map nts ++ [nts (c ++ [o])] := by rw [List.range_succ]; simp
            rw [el]
            refine paired_app (tups_upd eW5 (pw.same s45)) (.cons (tup_upd eW5 ⟨Y, rfl, ?_⟩) .nil)
            rw [e5, nts_app]
            rfl
        · rintro σ H4 ⟨⟨c5, rfl⟩, s4, ws, eW, pw⟩
          refine ⟨⟨_, _, rfl⟩, s4, ws, eW, ?_⟩
          have e : more ((allO (js.take i)).take (m + 1)) j.p = more ((allO (js.take i)).take m) j.p ++ (List.range j.p).map fun o => c ++ [o] := by
            unfold more
            rw [take_get hc, List.flatMap_append]
            simp
          rw [e]
          exact pw
      · rintro σ H3 ⟨⟨c4, c5, rfl⟩, s3, vs, eV, pv⟩
        rw [lus, List.take_length] at pv
        refine ⟨.ref R2, rfl, R2, vs, rfl, .inl (sqL eV), fun R3 nR3 => ?_⟩
        have s3' := same_upd nR3 (o := .lst vs)
        refine ⟨R3, vs, ⟨_, _, _, _, rfl⟩, s2.trans (s3.trans s3'), s2.free (s3.free nR3), upd_same, ?_⟩
        rw [take_get hj', allO_snoc]
        exact pv.same s3'
    · rintro σ H2 ⟨R, us, ⟨c2, c3, c4, c5, rfl⟩, s2, nRH, eR, pu⟩
      rw [lts, List.take_length] at pu
      exact ⟨_, rfl, q R H2 us s2 nRH eR pu⟩
end
end K7

set_option Elab.async false
set_option linter.all false
set_option maxRecDepth 100000
set_option maxHeartbeats 4000000
namespace K7
open PySem PySem.Spec L2
/-! ### the ends, by when they came -/
structure IsEnd (js : List Job) (i : Nat) (j : Job) (a e : Nat) : Prop where
  co : comes j a = true
  lt : a < e
  za : (lefts js a)[i]? = some 0
  ze : (lefts js e)[i]? = some 0
  up : ∀ u, a < u → u < e → (lefts js u)[i]? ≠ some 0
theorem cast_at (o p l : Nat) : ((o + p * l : Nat) : Int) = (o : Int) + (l : Int) * (p : Int) := by rw [Int.natCast_add, Int.natCast_mul, Int.mul_comm]
theorem came_at {js : List Job} {i : Nat} {j : Job} (hj : js[i]? = some j) (ok : JOk j) {T : Nat} (n : NoM js T) (hc : comes j T = true) (h0 : (lefts js T)[i]? = some 0) : T = j.o + j.p * (ends js i T).length := by
  obtain ⟨x, hx, e⟩ := cnt_at hj ok n
  rw [h0] at hx
  cases hx
  rw [jobAt_get hj, if_neg (by omega), Nat.add_zero] at e
  unfold comes at hc
  rw [beq_iff_eq] at hc
  unfold cameN at e
  rw [hc, if_neg (by omega), Nat.add_zero] at e
  rw [← e]
  have := Nat.div_add_mod T j.p
  omega
theorem ends_same {js : List Job} {i T x : Nat} (h : (lefts js (T + 1))[i]? = some (x + 1)) : ends js i (T + 1) = ends js i T := by
  show (if whoR js T = some i ∧ (lefts js (T + 1))[i]? = some 0 then _ else ends js i T) = ends js i T
  rw [if_neg]
  rintro ⟨_, z⟩
  rw [h] at z
  cases z
theorem open_at {js : List Job} {i : Nat} {j : Job} (hj : js[i]? = some j) (ok : JOk j) : ∀ {T x : Nat}, NoM js T → (lefts js T)[i]? = some (x + 1) →
    ∃ a, a < T ∧ a = j.o + j.p * (ends js i T).length ∧ comes j a = true ∧ (lefts js a)[i]? = some 0 ∧ ∀ u, a < u → u ≤ T → (lefts js u)[i]? ≠ some 0
  | 0, x, _, h => by
    have h : (List.replicate js.length 0)[i]? = some (x + 1) := h
    rw [List.getElem?_replicate] at h
    split at h <;> cases h
  | T + 1, x, n, h => by
    have hi := (List.getElem?_eq_some_iff.mp hj).1
    obtain ⟨y, hy⟩ : ∃ y, (lefts js T)[i]? = some y := ⟨_, List.getElem?_eq_getElem (by rw [lefts_len]; exact hi)⟩
    have nT := n.mono (Nat.le_succ T)
    by_cases hc : comes j T = true
    · have y0 := paired_ix (missF_none (lefts_len js T) (n T (Nat.lt_succ_self T))) hj hy hc
      subst y0
      refine ⟨T, Nat.lt_succ_self T, ?_, hc, hy, fun u h1 h2 => ?_⟩
      · rw [ends_same h]
        exact came_at hj ok nT hc hy
      · obtain rfl : u = T + 1 := by omega
        rw [h]; exact fun z => by cases z
    · have g := arr_get (t := T) hj hy
      have c : come1 T j y = y := by unfold come1; rw [if_neg hc]
      rw [c] at g
      obtain ⟨r1, r2⟩ := run_at _ i y g
      have yp : ∃ z, y = z + 1 := by
        by_cases w : runW (arr js T (lefts js T)) = some i
        · exact ⟨y - 1, by have := (r1 w).1; omega⟩
        · have e : (lefts js (T + 1))[i]? = some y := r2 w
          rw [h] at e
          exact ⟨x, (Option.some.inj e).symm⟩
      obtain ⟨z, rfl⟩ := yp
      obtain ⟨a, a1, a2, a3, a4, a5⟩ := open_at hj ok nT hy
      refine ⟨a, by omega, by rw [ends_same h]; exact a2, a3, a4, fun u h1 h2 => ?_⟩
      by_cases e : u = T + 1
      · rw [e, h]; exact fun w => by cases w
      · exact a5 u h1 (by omega)
/-- what is about to end came at o + p * (how many have ended) -/
theorem about {js : List Job} {i : Nat} {j : Job} (hj : js[i]? = some j) (ok : JOk j) {T : Nat} (n : NoM js (T + 1)) (hw : whoR js T = some i) :
    ∃ a, a < T + 1 ∧ a = j.o + j.p * (ends js i T).length ∧ comes j a = true ∧ (lefts js a)[i]? = some 0 ∧ ∀ u, a < u → u < T + 1 → (lefts js u)[i]? ≠ some 0 := by
  have hi := (List.getElem?_eq_some_iff.mp hj).1
  obtain ⟨y, hy⟩ : ∃ y, (lefts js T)[i]? = some y := ⟨_, List.getElem?_eq_getElem (by rw [lefts_len]; exact hi)⟩
  have nT := n.mono (Nat.le_succ T)
  by_cases hc : comes j T = true
  · have y0 := paired_ix (missF_none (lefts_len js T) (n T (Nat.lt_succ_self T))) hj hy hc
    subst y0
    exact ⟨T, Nat.lt_succ_self T, came_at hj ok nT hc hy, hc, hy, fun u h1 h2 => by omega⟩
  · have g := arr_get (t := T) hj hy
    have c : come1 T j y = y := by unfold come1; rw [if_neg hc]
    rw [c] at g
    have yp := ((run_at _ i y g).1 hw).1
    obtain ⟨z, rfl⟩ : ∃ z, y = z + 1 := ⟨y - 1, by omega⟩
    obtain ⟨a, a1, a2, a3, a4, a5⟩ := open_at hj ok nT hy
    exact ⟨a, by omega, a2, a3, a4, fun u h1 h2 => a5 u h1 (by omega)⟩
theorem ends_end {js : List Job} {i : Nat} {j : Job} (hj : js[i]? = some j) (ok : JOk j) : ∀ {T : Nat}, NoM js T → ∀ x ∈ ends js i T, ∃ a e, IsEnd js i j a e ∧ e ≤ T ∧ x = (e : Int) - (a : Nat)
  | 0, _, x, hx => by cases hx
  | T + 1, n, x, hx => by
    have hx : x ∈ (if whoR js T = some i ∧ (lefts js (T + 1))[i]? = some 0 then ends js i T ++ [((T + 1 : Nat) : Int) - ((jobAt js i).o : Nat) - (((ends js i T).length : Nat) : Int) * ((jobAt js i).p : Nat)] else ends js i T) := hx
    by_cases c : whoR js T = some i ∧ (lefts js (T + 1))[i]? = some 0
    · rw [if_pos c] at hx
      rcases List.mem_append.mp hx with hx | hx
      · obtain ⟨a, e, h1, h2, h3⟩ := ends_end hj ok (n.mono (Nat.le_succ T)) x hx
        exact ⟨a, e, h1, by omega, h3⟩
      · obtain ⟨a, a1, a2, a3, a4, a5⟩ := about hj ok n c.1
        refine ⟨a, T + 1, ⟨a3, a1, a4, c.2, a5⟩, Nat.le_refl _, ?_⟩
        rw [List.mem_singleton.mp hx, jobAt_get hj, a2, cast_at]
        omega
    · rw [if_neg c] at hx
      obtain ⟨a, e, h1, h2, h3⟩ := ends_end hj ok (n.mono (Nat.le_succ T)) x hx
      exact ⟨a, e, h1, by omega, h3⟩
theorem ends_sub {js : List Job} {i T : Nat} : ∀ n, ∀ x ∈ ends js i T, x ∈ ends js i (T + n)
  | 0, x, h => h
  | n + 1, x, h => by
    have := ends_sub n x h
    show x ∈ (if _ then _ else _)
    split
    · exact List.mem_append_left _ this
    · exact this
theorem end_ends {js : List Job} {i : Nat} {j : Job} (hj : js[i]? = some j) (ok : JOk j) {T a e : Nat} (n : NoM js T) (h : IsEnd js i j a e) (le : e ≤ T) : (e : Int) - (a : Nat) ∈ ends js i T := by
  have hi := (List.getElem?_eq_some_iff.mp hj).1
  obtain ⟨m, rfl⟩ : ∃ m, e = m + 1 := ⟨e - 1, by have := h.lt; omega⟩
  have nm := n.mono le
  obtain ⟨y, hy⟩ : ∃ y, (lefts js m)[i]? = some y := ⟨_, List.getElem?_eq_getElem (by rw [lefts_len]; exact hi)⟩
  have g := arr_get (t := m) hj hy
  have pos : 0 < come1 m j y := by
    by_cases e : a = m
    · subst e
      unfold come1
      rw [if_pos h.co]
      have := ok.r1
      omega
    · have := h.up m (by have := h.lt; omega) (Nat.lt_succ_self m)
      rw [hy] at this
      have : y ≠ 0 := fun z => this (by rw [z])
      unfold come1
      split <;> omega
  obtain ⟨r1, r2⟩ := run_at _ i _ g
  have hw : whoR js m = some i := Classical.byContradiction fun w => by
    have e : (lefts js (m + 1))[i]? = some (come1 m j y) := r2 w
    rw [h.ze] at e
    have := Option.some.inj e
    omega
  obtain ⟨a', a1, a2, a3, a4, a5⟩ := about hj ok nm hw
  have ea : a' = a := by
    rcases Nat.lt_trichotomy a' a with z | z | z
    · exact absurd h.za (a5 a z h.lt)
    · exact z
    · exact absurd a4 (h.up a' z a1)
  have un : ends js i (m + 1) = if whoR js m = some i ∧ (lefts js (m + 1))[i]? = some 0 then ends js i m ++ [((m + 1 : Nat) : Int) - ((jobAt js i).o : Nat) - (((ends js i m).length : Nat) : Int) * ((jobAt js i).p : Nat)] else ends js i m := rfl
  have hm : (((m + 1 : Nat) : Int)) - (a : Nat) ∈ ends js i (m + 1) := by
    rw [un, if_pos ⟨hw, h.ze⟩, jobAt_get hj]
    refine List.mem_append_right _ (List.mem_singleton.mpr ?_)
    rw [← ea, a2, cast_at]
    omega
  have := ends_sub (T - (m + 1)) _ hm
  rw [show m + 1 + (T - (m + 1)) = T by omega] at this
  exact this
/-- each end is at most the row's last -/
theorem end_le {js : List Job} (ok : ∀ j ∈ js, JOk j) {i : Nat} {j : Job} (hj : js[i]? = some j) {a e R : Nat} (h : IsEnd js i j a e) (h1 : 1 ≤ R) (h2 : R ≤ j.p) (h3 : wk js i R ≤ R) : e ≤ a + R := by
  obtain ⟨e', k1, k2, k3⟩ := resp_bound ok hj h.co h.za h1 h2 h3
  rcases Nat.lt_or_ge e' e with z | z
  · exact absurd k3 (h.up e' k1 z)
  · omega
theorem end_p {js : List Job} {i : Nat} {j : Job} (hj : js[i]? = some j) (ok : JOk j) (nm : IsFM js none) {a e : Nat} (h : IsEnd js i j a e) : e ≤ a + j.p := by
  have hi := (List.getElem?_eq_some_iff.mp hj).1
  have hp := ok.p1
  have hc : comes j (a + j.p) = true := by
    have := h.co
    unfold comes at this ⊢
    rw [Nat.add_mod_right]
    exact this
  obtain ⟨y, hy⟩ : ∃ y, (lefts js (a + j.p))[i]? = some y := ⟨_, List.getElem?_eq_getElem (by rw [lefts_len]; exact hi)⟩
  have y0 := paired_ix (missF_none (lefts_len js _) (nm (a + j.p))) hj hy hc
  subst y0
  rcases Nat.lt_or_ge (a + j.p) e with z | z
  · exact absurd hy (h.up (a + j.p) (by omega) z)
  · exact z
/-- what ends later ends as one period before -/
theorem all_seen {js : List Job} {c k : Nat} (per : Per js c) (e0 : lefts js (c * k) = lefts js (c * (k + 1))) (nm : IsFM js none) {i : Nat} {j : Job} (hj : js[i]? = some j) (ok : JOk j) :
    ∀ n a e, e ≤ n → IsEnd js i j a e → ∃ a' e', IsEnd js i j a' e' ∧ e' ≤ c * (k + 2) ∧ (e' : Int) - (a' : Nat) = (e : Int) - (a : Nat)
  | 0, a, e, le, h => by have := h.lt; omega
  | n + 1, a, e, le, h => by
    by_cases hT : e ≤ c * (k + 2)
    · exact ⟨a, e, h, hT, rfl⟩
    · have pc : j.p ≤ c := Nat.le_of_dvd per.1 (per.2 j (List.mem_of_getElem? hj))
      have ep := end_p hj ok nm h
      have e1 : c * (k + 2) = c * (k + 1) + c := by rw [show k + 2 = (k + 1) + 1 by omega, Nat.mul_succ]
      have e2 : c * (k + 1) = c * k + c := Nat.mul_succ c k
      have sh : ∀ u, c * (k + 1) ≤ u → lefts js (u - c) = lefts js u := fun u hu => by
        have := lefts_rep per e0 (u - c * (k + 1))
        rw [show c * k + (u - c * (k + 1)) = u - c by omega, show c * (k + 1) + (u - c * (k + 1)) = u by omega] at this
        exact this
      have c1 := per.1
      have ha : c * (k + 1) ≤ a := by omega
      have hl := h.lt
      obtain ⟨a', e', h1, h2, h3⟩ := all_seen per e0 nm hj ok n (a - c) (e - c) (by omega) ⟨by
        have := comes_per (per.2 j (List.mem_of_getElem? hj)) (a - c)
        rw [show a - c + c = a by omega] at this
        rw [← this]; exact h.co, by omega, by rw [sh a ha]; exact h.za, by rw [sh e (by omega)]; exact h.ze, fun u u1 u2 => by
        have := sh (u + c) (by omega)
        rw [show u + c - c = u by omega] at this
        rw [this]
        exact h.up (u + c) (by omega) (by omega)⟩
      exact ⟨a', e', h1, h2, by omega⟩
end K7

set_option Elab.async false
set_option linter.all false
set_option maxRecDepth 100000
set_option maxHeartbeats 4000000
namespace K7
open PySem PySem.Spec L2
/-! ### rows and fitting don't see the offsets -/
def rp (j : Job) : Nat × Nat := (j.r, j.p)
def SameRP (js js' : List Job) : Prop := js.map rp = js'.map rp
theorem SameRP.len {js js' : List Job} (h : SameRP js js') : js.length = js'.length := by
  have := congrArg List.length h
  rw [List.length_map, List.length_map] at this
  exact this
theorem SameRP.get {js js' : List Job} (h : SameRP js js') (i : Nat) (hi : i < js.length) : (jobAt js i).r = (jobAt js' i).r ∧ (jobAt js i).p = (jobAt js' i).p := by
  have hi' : i < js'.length := by rw [← h.len]; exact hi
  have e : (js.map rp)[i]? = (js'.map rp)[i]? := by rw [h]
  rw [List.getElem?_map, List.getElem?_map, List.getElem?_eq_getElem hi, List.getElem?_eq_getElem hi'] at e
  rw [jobAt_get (List.getElem?_eq_getElem hi), jobAt_get (List.getElem?_eq_getElem hi')]
  have e : rp js[i] = rp js'[i] := Option.some.inj e
  exact ⟨congrArg Prod.fst e, congrArg Prod.snd e⟩
theorem load_rp (l : List Job) (t : Nat) : load l t = ((l.map rp).map fun q => q.1 * up t q.2).sum := by
  unfold load; rw [List.map_map]; rfl
theorem SameRP.wk {js js' : List Job} (h : SameRP js js') {i : Nat} (hi : i < js.length) (t : Nat) : wk js i t = wk js' i t := by
  unfold K7.wk
  have e : (js.take i).map rp = (js'.take i).map rp := by rw [List.map_take, List.map_take, show js.map rp = js'.map rp from h]
  rw [(h.get i hi).1, load_rp, load_rp, e]
theorem SameRP.rowF {js js' : List Job} (h : SameRP js js') {i : Nat} (hi : i < js.length) : ∀ f x, rowF js i f x = K7.rowF js' i f x
  | 0, x => rfl
  | f + 1, x => by
    rw [K7.rowF, K7.rowF, (h.get i hi).2, h.wk hi, SameRP.rowF h hi f]
theorem SameRP.rowL {js js' : List Job} (h : SameRP js js') {i : Nat} (hi : i < js.length) : rowL js i = K7.rowL js' i := by
  unfold K7.rowL
  rw [h.rowF hi, (h.get i hi).1]
theorem SameRP.allOk {js js' : List Job} (h : SameRP js js') (k : AllOk js) : AllOk js' := fun i hi => by
  have hi' : i < js.length := by rw [h.len]; exact hi
  obtain ⟨t, h1, h2, h3⟩ := k i hi'
  exact ⟨t, h1, by rw [← (h.get i hi').2]; exact h2, by rw [← h.wk hi']; exact h3⟩
theorem SameRP.symm {js js' : List Job} (h : SameRP js js') : SameRP js' js := Eq.symm h
theorem atO_rp : ∀ {js : List Job} {os : List Nat}, os.length = js.length → SameRP (atO js os) js
  | [], [], _ => rfl
  | [], _ :: _, h => by cases h
  | _ :: _, [], h => by cases h
  | j :: js, o :: os, h => by
    show rp ⟨j.r, j.p, o⟩ :: (atO js os).map rp = rp j :: js.map rp
    rw [show (atO js os).map rp = js.map rp from atO_rp (by simpa using h)]
    rfl
theorem atO_ok : ∀ {js : List Job} {os : List Nat}, (∀ j ∈ js, JOk j) → Paired (fun o (j : Job) => o < j.p) os js → ∀ j ∈ atO js os, JOk j
  | [], [], _, _, j, hj => by cases hj
  | j0 :: js, o :: os, ok, .cons f t, j, hj => by
    have hj : j ∈ (⟨j0.r, j0.p, o⟩ : Job) :: atO js os := hj
    rcases List.mem_cons.mp hj with e | hj
    · have k := ok j0 List.mem_cons_self
      rw [e]
      exact ⟨k.r1, k.r2, k.p1, k.p2, f⟩
    · exact atO_ok (fun k hk => ok k (List.mem_cons_of_mem _ hk)) t j hj
theorem atO_zero : ∀ {js : List Job}, AtZero js → atO js (List.replicate js.length 0) = js
  | [], _ => rfl
  | j :: js, h => by
    show (⟨j.r, j.p, 0⟩ : Job) :: atO js (List.replicate js.length 0) = j :: js
    rw [atO_zero fun k hk => h k (List.mem_cons_of_mem _ hk)]
    have := h j List.mem_cons_self
    cases j
    cases this
    rfl
/-- the longest of the ends -/
def maxE (l : List Int) : Nat := l.foldl (fun m x => max m x.toNat) 0
theorem maxE_snoc (l : List Int) (x : Int) : maxE (l ++ [x]) = max (maxE l) x.toNat := by unfold maxE; rw [List.foldl_append]; rfl
theorem fold_ge : ∀ (l : List Int) (m : Nat), m ≤ l.foldl (fun m x => max m x.toNat) m ∧ ∀ x ∈ l, x.toNat ≤ l.foldl (fun m x => max m x.toNat) m
  | [], m => ⟨Nat.le_refl _, fun x h => by cases h⟩
  | y :: l, m => by
    obtain ⟨h1, h2⟩ := fold_ge l (max m y.toNat)
    refine ⟨Nat.le_trans (Nat.le_max_left _ _) h1, fun x hx => ?_⟩
    rcases List.mem_cons.mp hx with e | hx
    · rw [e]; exact Nat.le_trans (Nat.le_max_right _ _) h1
    · exact h2 x hx
theorem maxE_ge {l : List Int} {x : Int} (h : x ∈ l) : x.toNat ≤ maxE l := (fold_ge l 0).2 x h
theorem maxE_le {l : List Int} {b : Nat} (h : ∀ x ∈ l, x.toNat ≤ b) : maxE l ≤ b := by
  have : ∀ (l : List Int) (m : Nat), m ≤ b → (∀ x ∈ l, x.toNat ≤ b) → l.foldl (fun m x => max m x.toNat) m ≤ b := by
    intro l
    induction l with
    | nil => exact fun m h _ => h
    | cons y l ih => exact fun m h k => ih _ (Nat.max_le.mpr ⟨h, k y List.mem_cons_self⟩) fun x hx => k x (List.mem_cons_of_mem _ hx)
  exact this l 0 (Nat.zero_le _) h
end K7

set_option Elab.async false
set_option linter.all false
set_option maxRecDepth 100000
set_option maxHeartbeats 4000000
namespace K7
open PySem PySem.Spec PyProof.Rows L2 GX NdefX
/-! ### _law_times -/
def IL (l : List Nat) : List Int := l.map fun n => ((n : Nat) : Int)
theorem IL_v (l : List Nat) : (IL l).map V.int = nts l := by unfold IL nts; rw [List.map_map]; rfl
theorem IL_inj : ∀ {l m : List Nat}, IL l = IL m → l = m
  | [], [], _ => rfl
  | [], _ :: _, h => by cases h
  | _ :: _, [], h => by cases h
  | x :: l, y :: m, h => by
    have h : ((x : Nat) : Int) :: IL l = ((y : Nat) : Int) :: IL m := h
    injection h with h1 h2
    rw [IL_inj h2, Int.ofNat.inj h1]
theorem dpLst {K : PySem.W.Frag} {H : Hp} {T : Addr} {ks : List Int} (h : H T = some (.lst (ks.map V.int))) : Dp K H (.ref T) (.list (ks.map PyData.int)) := .lst (sqL h) (dpInts ks)
theorem shLst (ks : List Int) : SeqAt.shaped (.list (ks.map PyData.int)) = true := by
  unfold SeqAt.shaped
  rw [show PyData.canLay0 (.list (ks.map PyData.int)) = PyData.canLayAll0 (ks.map PyData.int) from rfl, canInts, Bool.true_and, decide_eq_true_eq]
  show PyData.depthAll (ks.map PyData.int) + 1 ≤ 64
  rw [depInts]
  decide
theorem eqLst (ks ls : List Int) : PyData.eqv (.list (ks.map PyData.int)) (.list (ls.map PyData.int)) = decide (ks = ls) := by
  rw [PyData.eqv]
  exact eqvInts ks ls
/-- what is kept: the rests at the multiple before -/
def kept (js : List Job) (c : Nat) : Nat → List Int
  | 0 => [-1]
  | n + 1 => IL (lefts js (c * n))
theorem kept_ne {l : List Nat} : ([-1] : List Int) ≠ IL l := by
  intro h
  cases l with
  | nil => cases h
  | cons x l =>
    have h : ([-1] : List Int) = ((x : Nat) : Int) :: IL l := h
    injection h with h1 h2
    omega
theorem tup_b {L b : Addr} {H H' : Hp} {xs ys : List V} (s : SameB L H H') (hL : H L = some (.lst xs)) (h : H b = some (.tup ys)) : H' b = some (.tup ys) := s b _ (ne_of h hL (by intro q; cases q)) h
theorem JobsT.bl {L a : Addr} {H H' : Hp} {xs : List V} {js : List Job} (s : SameB L H H') (hL : H L = some (.lst xs)) (h : JobsT H a js) : JobsT H' a js := by
  obtain ⟨ts, e, p⟩ := h
  exact ⟨ts, tup_b s hL e, paired_imp (fun x c ⟨b, e, hb⟩ => ⟨b, e, tup_b s hL hb⟩) p⟩
theorem sameB_upd {L : Addr} {H : Hp} {o : HO} : SameB L H (upd H L o) := fun b _ n e => by rw [upd_ne n]; exact e
theorem missP_stays {js : List Job} {t : Nat} {l : List Nat} (h : l.length = js.length) {m : Nat} : ∀ {k : Nat} (n : Nat), missP js t l k = some m → k + n ≤ js.length → missP js t l (k + n) = some m
  | k, 0, e, _ => e
  | k, n + 1, e, le => by
    have ih := missP_stays h (k := k) n e (by omega)
    have := missP_succ (t := t) h (i := k + n) (List.getElem?_eq_getElem (show k + n < js.length by omega)) (List.getElem?_eq_getElem (show k + n < l.length by omega))
    rw [ih] at this
    exact this
/-- the times as they stand: where what is left came -/
def CameOk (js : List Job) (T : Nat) (cm : List Nat) : Prop := cm.length = js.length ∧ ∀ (i : Nat) (j : Job) (x : Nat), js[i]? = some j → (lefts js T)[i]? = some (x + 1) → cm[i]? = some (j.o + j.p * (ends js i T).length)
def longs (js : List Job) (T : Nat) : List Nat := (List.range js.length).map fun i => maxE (ends js i T)
/-- whether a repetition was seen, at the multiple m -/
def Still (js : List Job) (c n : Nat) : Int → Prop := fun s => (s = -1 ∧ ∀ k, k + 1 < n → lefts js (c * k) ≠ lefts js (c * (k + 1))) ∨ ∃ m, s = ((c * (m + 1) : Nat) : Int) ∧ n = m + 2 ∧ lefts js (c * m) = lefts js (c * (m + 1)) ∧ ∀ k, k + 1 < m + 1 → lefts js (c * k) ≠ lefts js (c * (k + 1))
def spTimes : Sp := fun vs H Q _ => ∃ (a : Addr) (js : List Job) (c0 : Nat), vs = [.ref a] ∧ JobsT H a js ∧ (∀ j ∈ js, JOk j) ∧ js.length ≤ 3 ∧ 1 ≤ c0 ∧ c0 ≤ 30 ∧ (∀ j ∈ js, j.p ∣ c0) ∧ c0 * ((js.map (·.r)).sum + 2) < 400 ∧
  ∀ (D Lg : Addr) (H' : Hp) (mv : V) (r : Option (Nat × Nat)) (lg : List Nat), Same H H' → H D = none → H' D = some (.lst [mv, .ref Lg]) → H Lg = none → H' Lg = some (.lst (nts lg)) → lg.length = js.length → MisV H' mv r → IsFM js r → (r = none → ∃ c k, Per js c ∧ lefts js (c * k) = lefts js (c * (k + 1)) ∧ lg = longs js (c * (k + 2))) → Q (.ref D) H'
theorem longs_get {js : List Job} {T i : Nat} (h : i < js.length) : (longs js T)[i]? = some (maxE (ends js i T)) := by
  unfold longs
  rw [List.getElem?_map, List.getElem?_range h]
  rfl
theorem longs_len (js : List Job) (T : Nat) : (longs js T).length = js.length := by unfold longs; rw [List.length_map, List.length_range]
section
variable {P : Program} {w : World} {K : PySem.W.Frag} {mg : Str → Option Value} {base : Heap}
def forBody : Stmt → List Stmt
  | .For _ _ b _ _ => b
  | _ => []
theorem ends_un (js : List Job) (i T : Nat) : ends js i (T + 1) = if whoR js T = some i ∧ (lefts js (T + 1))[i]? = some 0 then ends js i T ++ [((T + 1 : Nat) : Int) - ((jobAt js i).o : Nat) - (((ends js i T).length : Nat) : Int) * ((jobAt js i).p : Nat)] else ends js i T := rfl
theorem longs_same {js : List Job} {T : Nat} (h : ∀ i, whoR js T = some i → (lefts js (T + 1))[i]? ≠ some 0) : longs js (T + 1) = longs js T := by
  unfold longs
  refine List.map_congr_left fun i _ => ?_
  rw [ends_un, if_neg fun z => h i z.1 z.2]
theorem longs_hit {js : List Job} {T k v : Nat} (hk : k < js.length) (h1 : whoR js T = some k) (h2 : (lefts js (T + 1))[k]? = some 0) (hv : (((T + 1 : Nat) : Int) - ((jobAt js k).o : Nat) - (((ends js k T).length : Nat) : Int) * ((jobAt js k).p : Nat)).toNat = v) :
    longs js (T + 1) = (longs js T).set k (max (maxE (ends js k T)) v) := by
  refine List.ext_getElem? fun i => ?_
  by_cases hi : i < js.length
  · rw [longs_get hi, List.getElem?_set]
    by_cases e : k = i
    · subst e
      rw [if_pos rfl, if_pos (by rw [longs_len]; exact hk), ends_un, if_pos ⟨h1, h2⟩, maxE_snoc, hv]
    · rw [if_neg e, longs_get hi, ends_un, if_neg fun z => e (by rw [h1] at z; exact Option.some.inj z.1)]
  · rw [List.getElem?_eq_none (by rw [longs_len]; omega), List.getElem?_eq_none (by rw [List.length_set, longs_len]; omega)]
theorem times_run {k : Nat} (D : Pr P K mg) (f : Addr) (cdv : Value) (A : Around) (outer : List Env) (s : Shared) (H0 : Hp) (E : XK) (hr : Room (k + 1) (A.deeper (envOfC "_law_times" (defScope s__law_times) s.heap.objs.size f cdv))) :
    ∃ t, PSs (cxOf CX0 P w K mg base n__law_times "_law_times" (defScope s__law_times) f cdv A outer s H0 E).nox ((forBody ((defBody s__law_times).getD 6 (.Pass ⟨0, 0, 0, 0⟩))).drop 2) t ∧ ∀ (De : Ends) (c2 c6 c7 c9 c10 : Option V) (a L Cm Lg : Addr) (c T : Nat) (js : List Job) (cm : List Nat) (H : Hp), JobsT H a js → js.length ≤ 3 →
      H L = some (.lst (nts (arr js T (lefts js T)))) → H Cm = some (.lst (nts cm)) → cm.length = js.length → H Lg = some (.lst (nts (longs js T))) → L ≠ Lg → Cm ≠ L → Cm ≠ Lg →
      (∀ i, whoR js T = some i → ∃ v, cm[i]? = some v ∧ v ≤ T ∧ v = (jobAt js i).o + (jobAt js i).p * (ends js i T).length) →
      (∀ c9 c10 H', K2 L Lg H H' → H' L = some (.lst (nts (lefts js (T + 1)))) → H' Lg = some (.lst (nts (longs js (T + 1)))) → De.nx [some (.ref a), some (.ref L), c2, some (.ref Cm), some (.ref Lg), some (.int (c : Nat)), c6, c7, some (.int (T : Nat)), c9, c10] H') →
      t De [some (.ref a), some (.ref L), c2, some (.ref Cm), some (.ref Lg), some (.int (c : Nat)), c6, c7, some (.int (T : Nat)), c9, c10] H := by
  refine ⟨_, (pss_cons (ps_set (i := 10) sc__law_times.nd rfl (.inl rfl) pe_bl)
      (pss_one (ps_for PassesOwn.never rfl (pi_range1 (by rfl) D.B.range (pa_cons (pe_callB call_len (by rfl) D.B.len PySem.boot_len (pa_cons (pv 0) pa_nil)) pa_nil)) (pg_name (i := 9) sc__law_times.nd rfl (.inl rfl)) (pss_one (ps_if (PW.pt (pw_and (pt_cmpR op_gt (pe_ix (r := rIxL K) ix_list (pv 1) (pv 9) (fun _ _ => rfl)) pe_int (nomark _)) (pw_and1 (pt_not (pt_val (pv 10)))))) (pss_cons (ps_set (i := 10) sc__law_times.nd rfl (.inl rfl) pe_bl) (pss_cons (ps_asg (pe_op (r := rSubN) op_SubN (pe_ix (r := rIxL K) ix_list (pv 1) (pv 9) (fun _ _ => rfl)) pe_int) (pg_sub (pv 1) (pv 9) set_list)) (pss_one (ps_if (pt_cmpR op_eq (pe_ix (r := rIxL K) ix_list (pv 1) (pv 9) (fun _ _ => rfl)) pe_int (nomark _)) (pss_one (ps_asg (pe_callB (r := rMax2N) (call_max2N rfl) (by rfl) D.B.max (by decide +kernel) (pa_cons (pe_ix (r := rIxL K) ix_list (pv 4) (pv 9) (fun _ _ => rfl)) (pa_cons (pe_op (r := rSubN) op_SubN (pe_op (r := rAddN) op_AddN (pv 8) pe_int) (pe_ix (r := rIxL K) ix_list (pv 3) (pv 9) (fun _ _ => rfl))) pa_nil))) (pg_sub (pv 4) (pv 9) set_list))) pss_nil)))) pss_nil))))), ?_⟩
  intro De c2 c6 c7 c9 c10 a L Cm Lg c T js cm H hj hl3 hL hC lcm hG nLG nCL nCG hcm nx
  obtain ⟨ts, ha, pt⟩ := id hj
  have lts := jt_len pt
  have lb := arr_len (t := T) (lefts_len js T)
  generalize hb : arr js T (lefts js T) = b at hL lb
  have hnext : lefts js (T + 1) = runL b := by rw [← hb]; rfl
  have hwho : whoR js T = runW b := by rw [← hb]; rfl
  refine ⟨.ref a, rfl, .ref a, js.length, rfl, .inr ⟨_, sqT ha, lts.symm⟩, (js.length : Nat), rfl, by omega, by omega, ?_⟩
  refine forRg (D := { nx := De.nx, rt := De.rt, bk := De.bk, ct := De.ct }) (n := js.length) (fun m σ H' => ∃ run : Bool, (∃ c9, σ = [some (.ref a), some (.ref L), c2, some (.ref Cm), some (.ref Lg), some (.int (c : Nat)), c6, c7, some (.int (T : Nat)), c9, some (.bl run)]) ∧ K2 L Lg H H' ∧
      ((run = false ∧ (∀ q, q < m → b[q]? = some 0) ∧ H' L = some (.lst (nts b)) ∧ H' Lg = some (.lst (nts (longs js T)))) ∨ (run = true ∧ H' L = some (.lst (nts (lefts js (T + 1)))) ∧ H' Lg = some (.lst (nts (longs js (T + 1))))))) ⟨false, ⟨_, rfl⟩, K2.refl, .inl ⟨rfl, fun q h => by omega, hL, hG⟩⟩ ?_ ?_
  · rintro m σ H2 hm ⟨run, ⟨c9, rfl⟩, k2, h⟩
    rcases h with ⟨rfl, hz, eL, eG⟩ | ⟨rfl, eL, eG⟩
    · obtain ⟨y, hy⟩ : ∃ y, b[m]? = some y := ⟨_, List.getElem?_eq_getElem (by omega)⟩
      refine ⟨_, rfl, _, rfl, L, _, m, _, rfl, rfl, sqL eL, atI_nat (nts_at hy), (y : Nat), 0, rfl, rfl, _, rfl, ?_⟩
      cases y with
      | zero => exact iteFq (by rfl) ⟨false, ⟨_, rfl⟩, k2, .inl ⟨rfl, fun q hq => by
          by_cases e : q = m
          · rw [e]; exact hy
          · exact hz q (by omega), eL, eG⟩⟩
      | succ y =>
        obtain ⟨r1, r2⟩ := run_hit b m y hz hy
        have em : lefts js (T + 1) = b.set m y := by rw [hnext, r1]
        have hw : whoR js T = some m := by rw [hwho, r2]
        have lym : (lefts js (T + 1))[m]? = some y := by rw [em, List.getElem?_set, if_pos rfl, if_pos (by omega)]
        refine iteTq (decide_eq_true (by omega)) ⟨_, rfl, false, rfl, iteT ?_⟩
        refine ⟨_, rfl, _, rfl, L, _, m, _, rfl, rfl, sqL eL, atI_nat (nts_at hy), y + 1, 1, rfl, rfl, by omega, _, rfl, _, rfl, L, _, _, m, rfl, rfl, eL, ixN_nat (by rw [nts_len, lb]; exact hm), ?_⟩
        have hv : V.int ((y + 1 - 1 : Nat) : Int) = .int (y : Nat) := rfl
        rw [hv, nts_set]
        have eL3 : (upd H2 L (.lst (nts (b.set m y)))) L = some (.lst (nts (lefts js (T + 1)))) := by rw [upd_same, em]
        have eG3 : (upd H2 L (.lst (nts (b.set m y)))) Lg = some (.lst (nts (longs js T))) := by rw [upd_ne nLG.symm]; exact eG
        have eC3 : (upd H2 L (.lst (nts (b.set m y)))) Cm = some (.lst (nts cm)) := by rw [upd_ne nCL]; exact k2 _ _ nCL nCG hC
        have k3 : K2 L Lg H (upd H2 L (.lst (nts (b.set m y)))) := k2.trans k2_updC
        generalize upd H2 L (.lst (nts (b.set m y))) = H3 at eL3 eG3 eC3 k3 ⊢
        refine ⟨_, rfl, _, rfl, L, _, m, _, rfl, rfl, sqL eL3, atI_nat (nts_at lym), rfl, _, rfl, ?_⟩
        by_cases y0 : y = 0
        · subst y0
          obtain ⟨v, v1, v2, v3⟩ := hcm m hw
          have hl := longs_hit (js := js) (T := T) (k := m) (v := T + 1 - v) hm hw lym (by
            have : (((jobAt js m).o + (jobAt js m).p * (ends js m T).length : Nat) : Int) = ((jobAt js m).o : Nat) + (((ends js m T).length : Nat) : Int) * ((jobAt js m).p : Nat) := cast_at _ _ _
            rw [← v3] at this
            omega)
          refine iteTq rfl ⟨_, rfl, _, rfl, Lg, _, m, _, rfl, rfl, sqL eG3, atI_nat (nts_at (longs_get hm)), _, rfl, T, 1, rfl, rfl, _, rfl, _, rfl, Cm, _, m, _, rfl, rfl, sqL eC3, atI_nat (nts_at v1), T + 1, v, rfl, rfl, by omega, _, _, rfl, _, rfl, _, rfl, Lg, _, _, m, rfl, rfl, eG3, ixN_nat (by rw [nts_len, longs_len]; exact hm), true, ⟨_, rfl⟩, k3.trans k2_upd, .inr ⟨rfl, by rw [upd_ne nLG]; exact eL3, ?_⟩⟩
          rw [upd_same, nts_set, hl]
        · refine iteFq (decide_eq_false (fun z => y0 (by injection z with z; exact_mod_cast z))) ⟨true, ⟨_, rfl⟩, k3, .inr ⟨rfl, eL3, ?_⟩⟩
          rw [longs_same (fun i w z => ?_)]
          · exact eG3
          · rw [hw] at w
            cases w
            rw [lym] at z
            exact y0 (Option.some.inj z)
    · obtain ⟨y, hy⟩ : ∃ y, (lefts js (T + 1))[m]? = some y := ⟨_, List.getElem?_eq_getElem (by rw [lefts_len]; exact hm)⟩
      refine ⟨_, rfl, _, rfl, L, _, m, _, rfl, rfl, sqL eL, atI_nat (nts_at hy), (y : Nat), 0, rfl, rfl, _, rfl, ?_⟩
      by_cases y0 : 0 < y
      · exact iteTq (decide_eq_true (by omega)) ⟨_, rfl, true, rfl, iteF ⟨true, ⟨_, rfl⟩, k2, .inr ⟨rfl, eL, eG⟩⟩⟩
      · exact iteFq (decide_eq_false (by omega)) ⟨true, ⟨_, rfl⟩, k2, .inr ⟨rfl, eL, eG⟩⟩
  · rintro σ H2 ⟨run, ⟨c9, rfl⟩, k2, h⟩
    rcases h with ⟨rfl, hz, eL, eG⟩ | ⟨rfl, eL, eG⟩
    · obtain ⟨r1, r2⟩ := run_none b (by rw [lb]; exact hz)
      refine nx _ _ H2 k2 (by rw [hnext, r1]; exact eL) ?_
      rw [longs_same (fun i w => by rw [hwho, r2] at w; cases w)]
      exact eG
    · exact nx _ _ H2 k2 eL eG
theorem run_lt : ∀ (b : List Nat) (i : Nat), runW b = some i → i < b.length
  | [], i, h => by cases h
  | 0 :: b, i, h => by
    have h : (runW b).map (· + 1) = some i := h
    obtain ⟨y, hy, rfl⟩ := Option.map_eq_some_iff.mp h
    have := run_lt b y hy
    rw [List.length_cons]
    omega
  | (x + 1) :: b, i, h => by
    have h : some 0 = some i := h
    cases h
    rw [List.length_cons]
    omega
/-- when the jobs of tick T have come -/
def cameAfter (js : List Job) (T m : Nat) (cm cm' : List Nat) : Prop := cm'.length = js.length ∧ ∀ (i : Nat) (j : Job), js[i]? = some j → cm'[i]? = if i < m ∧ comes j T = true then some T else cm[i]?
def K3 (L Cm Lg : Addr) (H H' : Hp) : Prop := ∀ b o, b ≠ L → b ≠ Cm → b ≠ Lg → H b = some o → H' b = some o
theorem times_tail {k : Nat} (D : Pr P K mg) (f : Addr) (cdv : Value) (A : Around) (outer : List Env) (s : Shared) (H0 : Hp) (E : XK) (hr : Room (k + 1) (A.deeper (envOfC "_law_times" (defScope s__law_times) s.heap.objs.size f cdv))) :
    ∃ t, PSs (cxOf CX0 P w K mg base n__law_times "_law_times" (defScope s__law_times) f cdv A outer s H0 E).nox ((forBody ((defBody s__law_times).getD 6 (.Pass ⟨0, 0, 0, 0⟩))).drop 1) t ∧ ∀ (De : Ends) (c2 c6 c7 c9 c10 : Option V) (a L Cm Lg : Addr) (c T : Nat) (js : List Job) (cm : List Nat) (H : Hp), JobsT H a js → (∀ j ∈ js, JOk j) → js.length ≤ 3 → NoM js T →
      H L = some (.lst (nts (lefts js T))) → H Cm = some (.lst (nts cm)) → CameOk js T cm → H Lg = some (.lst (nts (longs js T))) → L ≠ Lg → Cm ≠ L → Cm ≠ Lg →
      (∀ i D' U H', miss js T (lefts js T) = some i → K3 L Cm Lg H H' → H D' = none → H' D' = some (.lst [.ref U, .ref Lg]) → H' U = some (.tup [.int (i : Nat), .int (T : Nat)]) → H' Lg = some (.lst (nts (longs js T))) → De.rt (.ref D') H') →
      (∀ c9 c10 H' cm', miss js T (lefts js T) = none → K3 L Cm Lg H H' → H' L = some (.lst (nts (lefts js (T + 1)))) → H' Cm = some (.lst (nts cm')) → CameOk js (T + 1) cm' → H' Lg = some (.lst (nts (longs js (T + 1)))) → De.nx [some (.ref a), some (.ref L), c2, some (.ref Cm), some (.ref Lg), some (.int (c : Nat)), c6, c7, some (.int (T : Nat)), c9, c10] H') →
      t De [some (.ref a), some (.ref L), c2, some (.ref Cm), some (.ref Lg), some (.int (c : Nat)), c6, c7, some (.int (T : Nat)), c9, c10] H := by
  obtain ⟨tR, hR, rR⟩ := times_run (w := w) (P := P) (base := base) D f cdv A outer s H0 E hr
  refine ⟨_, (pss_cons (ps_for PassesOwn.never rfl (pi_range1 (by rfl) D.B.range (pa_cons (pe_callB call_len (by rfl) D.B.len PySem.boot_len (pa_cons (pv 0) pa_nil)) pa_nil)) (pg_name (i := 9) sc__law_times.nd rfl (.inl rfl)) (pss_one (ps_if (pt_cmpR op_eq (pe_op (r := rModN) op_ModN (pe_callTy call_int1 (by rfl) D.B.int (by decide +kernel) (pa_cons (pv 8) pa_nil)) (pe_ix (r := rIxT K) ix_tup (pe_ix (r := rIxT K) ix_tup (pv 0) (pv 9) (fun _ _ => rfl)) pe_int (fun _ _ => rfl))) (pe_ix (r := rIxT K) ix_tup (pe_ix (r := rIxT K) ix_tup (pv 0) (pv 9) (fun _ _ => rfl)) pe_int (fun _ _ => rfl)) (nomark _)) (pss_cons (ps_if (pt_cmpR op_gt (pe_ix (r := rIxL K) ix_list (pv 1) (pv 9) (fun _ _ => rfl)) pe_int (nomark _)) (pss_one (ps_ret (pe_lst (pa_cons (pe_tup (pa_cons (pv 9) (pa_cons (pv 8) pa_nil))) (pa_cons (pv 4) pa_nil))))) pss_nil) (pss_cons (ps_asg (pe_ix (r := rIxT K) ix_tup (pe_ix (r := rIxT K) ix_tup (pv 0) (pv 9) (fun _ _ => rfl)) pe_int (fun _ _ => rfl)) (pg_sub (pv 1) (pv 9) set_list)) (pss_one (ps_asg (pv 8) (pg_sub (pv 3) (pv 9) set_list))))) pss_nil))) hR), ?_⟩
  intro De c2 c6 c7 c9 c10 a L Cm Lg c T js cm H hj hok hl3 nm hL hC co hG nLG nCL nCG rt nx
  obtain ⟨ts, ha, pt⟩ := id hj
  have lts := jt_len pt
  have ln := lefts_len js T
  obtain ⟨lcm, hco⟩ := co
  refine ⟨.ref a, rfl, .ref a, js.length, rfl, .inr ⟨_, sqT ha, lts.symm⟩, (js.length : Nat), rfl, by omega, by omega, ?_⟩
  refine forRg (D := { nx := fun σ H => tR De σ H, rt := De.rt, bk := De.bk, ct := De.ct }) (n := js.length) (fun m σ H' => (∃ c9, σ = [some (.ref a), some (.ref L), c2, some (.ref Cm), some (.ref Lg), some (.int (c : Nat)), c6, c7, some (.int (T : Nat)), c9, c10]) ∧ K2 L Cm H H' ∧ H' L = some (.lst (nts (part js T (lefts js T) m))) ∧ (∃ cm', H' Cm = some (.lst (nts cm')) ∧ cameAfter js T m cm cm') ∧ missP js T (lefts js T) m = none) ⟨⟨_, rfl⟩, K2.refl, hL, ⟨cm, hC, lcm, fun i j h => by rw [if_neg (by omega)]⟩, rfl⟩ ?_ ?_
  · rintro m σ H2 hm ⟨⟨c9, rfl⟩, k2, eL, ⟨cm', eC, lc', hc'⟩, mp⟩
    obtain ⟨j, b, hji, hbx, hb⟩ := jobs_got pt (List.getElem?_eq_getElem (show m < ts.length by omega))
    have hbi : ts[m]? = some (.ref b) := by rw [List.getElem?_eq_getElem (show m < ts.length by omega), hbx]
    have jk := hok j (List.mem_of_getElem? hji)
    have kt : ∀ d xs, H d = some (.tup xs) → H2 d = some (.tup xs) := fun d xs e => k2 _ _ (ne_of e hL (by intro q; cases q)) (ne_of e hC (by intro q; cases q)) e
    have ha2 := kt _ _ ha
    have hb2 := kt _ _ hb
    obtain ⟨y, hy⟩ : ∃ y, (lefts js T)[m]? = some y := ⟨_, List.getElem?_eq_getElem (by omega)⟩
    have hyp : (part js T (lefts js T) m)[m]? = some y := by rw [part_get ln hm, hy]
    refine ⟨_, rfl, .inl ⟨_, rfl, _, rfl, _, rfl, a, ts, m, .ref b, rfl, rfl, sqT ha2, atI_nat hbi, b, _, 1, _, rfl, rfl, sqT hb2, atI_nat (j := 1) rfl, T, j.p, rfl, rfl, jk.p1, _, rfl, _, rfl, a, ts, m, .ref b, rfl, rfl, sqT ha2, atI_nat hbi, b, _, 2, _, rfl, rfl, sqT hb2, atI_nat (j := 2) rfl, rfl, _, rfl, ?_⟩⟩
    have hct : decide (V.int ((T % j.p : Nat) : Int) = V.int ((j.o : Nat) : Int)) = comes j T := by
      unfold comes
      rw [Bool.eq_iff_iff, decide_eq_true_iff, beq_iff_eq]
      exact ⟨fun z => by injection z with z; exact_mod_cast z, fun z => by rw [z]⟩
    have hmn := missP_succ (t := T) ln hji hy
    rw [mp] at hmn
    by_cases hcm : comes j T = true
    · refine iteTq (hct.trans hcm) ⟨_, rfl, _, rfl, L, _, m, _, rfl, rfl, sqL eL, atI_nat (nts_at hyp), (y : Nat), 0, rfl, rfl, _, rfl, ?_⟩
      by_cases y0 : 0 < y
      · refine iteTq (decide_eq_true (by omega)) ⟨_, rfl, _, rfl, by show 2 ≤ sizeLine; decide, fun U nU => ⟨_, rfl, by show 2 ≤ sizeLine; decide, fun D' nD => ?_⟩⟩
        have e2 : missP js T (lefts js T) (m + 1) = some m := by rw [hmn]; exact if_pos ⟨hcm, y0⟩
        have e3 : miss js T (lefts js T) = some m := by
          have := missP_stays ln (js.length - (m + 1)) e2 (by omega)
          rw [show m + 1 + (js.length - (m + 1)) = js.length by omega, missP_all ln] at this
          exact this
        have sU := same_upd nU (o := .tup [.int (m : Nat), .int (T : Nat)])
        have sD := same_upd nD (o := .lst [.ref U, .ref Lg])
        have nDH2 := sU.free nD
        have eG : H2 Lg = some (.lst (nts (longs js T))) := k2 _ _ nLG.symm nCG.symm hG
        refine rt m D' U _ e3 (fun b o n1 n2 n3 e => sD _ _ (sU _ _ (k2 b o n1 n2 e))) ?_ upd_same (sD _ _ upd_same) (sD _ _ (sU _ _ eG))
        cases e : H D' with
        | none => rfl
        | some o =>
          exfalso
          by_cases z1 : D' = L
          · rw [z1, eL] at nDH2; cases nDH2
          · by_cases z2 : D' = Cm
            · rw [z2, eC] at nDH2; cases nDH2
            · rw [k2 _ _ z1 z2 e] at nDH2; cases nDH2
      · obtain rfl : y = 0 := by omega
        have e2 : missP js T (lefts js T) (m + 1) = none := by rw [hmn]; exact if_neg fun z => y0 z.2
        have hps : part js T (lefts js T) (m + 1) = (part js T (lefts js T) m).set m j.r := by
          rw [part_succ ln hji hy]
          unfold come1
          rw [if_pos hcm, Nat.zero_add]
        refine iteFq (by rfl) ⟨_, rfl, _, rfl, a, ts, m, .ref b, rfl, rfl, sqT ha2, atI_nat hbi, b, _, 0, _, rfl, rfl, sqT hb2, atI_nat (j := 0) rfl, _, rfl, _, rfl, L, _, _, m, rfl, rfl, eL, ixN_nat (by rw [nts_len, part_len ln (by omega)]; exact hm), _, rfl, _, rfl, _, rfl, Cm, _, _, m, rfl, rfl, by rw [upd_ne nCL]; exact eC, ixN_nat (by rw [nts_len, lc']; exact hm), ⟨_, rfl⟩, (k2.trans k2_updC).trans k2_upd, by rw [upd_ne nCL.symm, upd_same, nts_set, ← hps], ⟨cm'.set m T, by rw [upd_same, nts_set], by rw [List.length_set]; exact lc', fun i j2 h2 => ?_⟩, e2⟩
        rw [List.getElem?_set]
        by_cases e : m = i
        · subst e
          rw [hji] at h2
          cases h2
          rw [if_pos rfl, if_pos (by omega), if_pos ⟨by omega, hcm⟩]
        · rw [if_neg e, hc' i j2 h2]
          by_cases z : i < m ∧ comes j2 T = true
          · rw [if_pos z, if_pos ⟨by omega, z.2⟩]
          · rw [if_neg z, if_neg (fun w => z ⟨by omega, w.2⟩)]
    · have hcf : comes j T = false := by simpa using hcm
      have e2 : missP js T (lefts js T) (m + 1) = none := by rw [hmn]; exact if_neg fun z => hcm z.1
      refine iteFq (hct.trans hcf) ⟨⟨_, rfl⟩, k2, by rw [part_same ln hji hy hcf]; exact eL, ⟨cm', eC, lc', fun i j2 h2 => ?_⟩, e2⟩
      rw [hc' i j2 h2]
      by_cases e : i = m
      · subst e
        rw [hji] at h2
        cases h2
        rw [if_neg (by omega), if_neg (fun w => hcm w.2)]
      · by_cases z : i < m ∧ comes j2 T = true
        · rw [if_pos z, if_pos ⟨by omega, z.2⟩]
        · rw [if_neg z, if_neg (fun w => z ⟨by omega, w.2⟩)]
  · rintro σ H2 ⟨⟨c9, rfl⟩, k2, eL, ⟨cm', eC, lc', hc'⟩, mp⟩
    rw [part_all ln] at eL
    rw [missP_all ln] at mp
    have eG : H2 Lg = some (.lst (nts (longs js T))) := k2 _ _ nLG.symm nCG.symm hG
    have jt2 : JobsT H2 a js := by
      refine ⟨ts, k2 _ _ (ne_of ha hL (by intro q; cases q)) (ne_of ha hC (by intro q; cases q)) ha, paired_imp (fun x d ⟨b, e, hb⟩ => ⟨b, e, k2 _ _ (ne_of hb hL (by intro q; cases q)) (ne_of hb hC (by intro q; cases q)) hb⟩) pt⟩
    have nm1 := nm.succ mp
    refine rR De c2 c6 c7 _ c10 a L Cm Lg c T js cm' H2 jt2 hl3 eL eC lc' eG nLG nCL nCG (fun i hw => ?_) (fun c9 c10 H' k3 eL' eG' => ?_)
    · have hi : i < js.length := by
        have := run_lt _ i hw
        rw [arr_len ln] at this
        exact this
      have hji := List.getElem?_eq_getElem hi
      have jk := hok _ (List.mem_of_getElem? hji)
      have nT := nm
      obtain ⟨y, hy⟩ : ∃ y, (lefts js T)[i]? = some y := ⟨_, List.getElem?_eq_getElem (by omega)⟩
      rw [jobAt_get hji]
      by_cases hc : comes js[i] T = true
      · have y0 := paired_ix (missF_none ln mp) hji hy hc
        subst y0
        exact ⟨T, by rw [hc' i _ hji, if_pos ⟨hi, hc⟩], Nat.le_refl _, came_at hji jk nm hc hy⟩
      · have g := arr_get (t := T) hji hy
        have c : come1 T js[i] y = y := by unfold come1; rw [if_neg hc]
        rw [c] at g
        have yp := ((run_at _ i y g).1 hw).1
        obtain ⟨z, rfl⟩ : ∃ z, y = z + 1 := ⟨y - 1, by omega⟩
        obtain ⟨a', a1, a2, _⟩ := open_at hji jk nm hy
        exact ⟨a', by rw [hc' i _ hji, if_neg (fun w => hc w.2), hco i _ z hji hy, a2], by omega, a2⟩
    · refine nx _ _ H' cm' mp (fun b o n1 n2 n3 e => k3 b o n1 n3 (k2 b o n1 n2 e)) eL' (k3 _ _ nCL nCG eC) ⟨lc', fun i j x hji hx => ?_⟩ eG'
      have hi := (List.getElem?_eq_some_iff.mp hji).1
      have jk := hok _ (List.mem_of_getElem? hji)
      rw [ends_same hx]
      obtain ⟨y, hy⟩ : ∃ y, (lefts js T)[i]? = some y := ⟨_, List.getElem?_eq_getElem (by omega)⟩
      by_cases hc : comes j T = true
      · have y0 := paired_ix (missF_none ln mp) hji hy hc
        subst y0
        rw [hc' i _ hji, if_pos ⟨hi, hc⟩, ← came_at hji jk nm hc hy]
      · have g := arr_get (t := T) hji hy
        have c : come1 T j y = y := by unfold come1; rw [if_neg hc]
        rw [c] at g
        obtain ⟨r1, r2⟩ := run_at _ i y g
        have yp : ∃ z, y = z + 1 := by
          by_cases w : runW (arr js T (lefts js T)) = some i
          · exact ⟨y - 1, by have := (r1 w).1; omega⟩
          · have e : (lefts js (T + 1))[i]? = some y := r2 w
            rw [hx] at e
            exact ⟨x, (Option.some.inj e).symm⟩
        obtain ⟨z, rfl⟩ := yp
        rw [hc' i _ hji, if_neg (fun w => hc w.2), hco i _ z hji hy]
theorem ok_times {k : Nat} (D : Pr P K mg) : FnOk P w K mg base CX0 (k + 2) D._law_times.f D._law_times.fd ["jobs"] spTimes := by
  have G__law_common : FnOk P w K mg base CX0 (k + 1) D._law_common.f D._law_common.fd ["jobs"] spCommon := ok_common D
  refine D._law_times.F.ok sc__law_times (fun vs H Q E h => ?_) (fun cdv A outer s H vs Q E hr h => ?_)
  · obtain ⟨a, js, c0, rfl, _⟩ := h
    rfl
  · obtain ⟨a, js, c0, rfl, hj, hok, hl3, c01, c030, c0d, c0b, q⟩ := h
    obtain ⟨ts, ha, pt⟩ := id hj
    have lts := jt_len pt
    obtain ⟨tT, hT, rT⟩ := times_tail (w := w) (P := P) (base := base) D D._law_times.f cdv A outer s H E hr
    refine ⟨_, (pss_cons (ps_setLc (i := 1) (own := [("job", 2)]) (g := (gName 2)) (tt := tYes) rfl sc__law_times.nd rfl rfl (sw_true rfl rfl rfl (by decide +kernel)) (pi_tup (pv 0)) (blkOk_by (own := [("job", 2)]) (N := n__law_times) (sc := defScope s__law_times) (by decide +kernel)) (fun _ _ _ _ _ => (pg_name (i := 2) sc__law_times.nd rfl (.inl rfl))) (fun _ _ _ _ _ => pts_nil) (fun _ _ _ _ _ => pe_int))
      (pss_cons (ps_setLc (i := 3) (own := [("job", 2)]) (g := (gName 2)) (tt := tYes) rfl sc__law_times.nd rfl rfl (sw_true rfl rfl rfl (by decide +kernel)) (pi_tup (pv 0)) (blkOk_by (own := [("job", 2)]) (N := n__law_times) (sc := defScope s__law_times) (by decide +kernel)) (fun _ _ _ _ _ => (pg_name (i := 2) sc__law_times.nd rfl (.inl rfl))) (fun _ _ _ _ _ => pts_nil) (fun _ _ _ _ _ => pe_int))
      (pss_cons (ps_setLc (i := 4) (own := [("job", 2)]) (g := (gName 2)) (tt := tYes) rfl sc__law_times.nd rfl rfl (sw_true rfl rfl rfl (by decide +kernel)) (pi_tup (pv 0)) (blkOk_by (own := [("job", 2)]) (N := n__law_times) (sc := defScope s__law_times) (by decide +kernel)) (fun _ _ _ _ _ => (pg_name (i := 2) sc__law_times.nd rfl (.inl rfl))) (fun _ _ _ _ _ => pts_nil) (fun _ _ _ _ _ => pe_int))
      (pss_cons (ps_set (i := 5) sc__law_times.nd rfl (.inl rfl) (pe_call G__law_common hr (by rfl) D._law_common.g D._law_common.F.kp D._law_common.b .nil pass0 (pa_cons (pv 0) pa_nil)))
      (pss_cons (ps_set (i := 6) sc__law_times.nd rfl (.inl rfl) (pe_lst (pa_cons (pe_un un_neg pe_int) pa_nil)))
      (pss_cons (ps_set (i := 7) sc__law_times.nd rfl (.inl rfl) (pe_un un_neg pe_int))
      (pss_cons (ps_for PassesOwn.never rfl (pi_range1 (by rfl) D.B.range (pa_cons pe_int pa_nil)) (pg_name (i := 8) sc__law_times.nd rfl (.inl rfl)) (pss_cons (ps_if (pt_cmpR op_eq (pe_op (r := rModN) op_ModN (pe_callTy call_int1 (by rfl) D.B.int (by decide +kernel) (pa_cons (pv 8) pa_nil)) (pv 5)) pe_int (nomark _)) (pss_cons (ps_if (pt_cmpR op_ge (pv 7) pe_int (nomark _)) (pss_one (ps_ret (pe_lst (pa_cons pe_non (pa_cons (pv 4) pa_nil))))) pss_nil) (pss_cons (ps_if (pt_cmpR (op_eqD hr.units) (pv 6) (pv 1) (nomark _)) (pss_one (ps_set (i := 7) sc__law_times.nd rfl (.inl rfl) (pv 8))) pss_nil) (pss_one (ps_set (i := 6) sc__law_times.nd rfl (.inl rfl) (pe_callTy call_list_of (by rfl) D.B.list (by decide +kernel) (pa_cons (pv 1) pa_nil)))))) pss_nil) hT))
      (pss_one (ps_ret (pe_lst (pa_cons pe_non (pa_cons (pv 4) pa_nil)))))))))))), ?_⟩
    refine ⟨.ref a, rfl, a, rfl, ⟨_, sqT ha⟩, lcTup (fun i H y => y = V.int 0) (fun i H H' x s h => h) (fun D i H x us ys e _ h => h) ha (by omega) (fun Dl i y H2 Qk Qn hy s2 nDl eDl hk => ⟨rfl, iteT (B := Qn H2) (hk _ H2 rfl (Same.refl _))⟩) (fun L H1 us nL s1 eL pu => ?_)⟩
    rw [lts] at pu
    obtain rfl := zeros_of pu
    clear pu
    have ha1 := s1 _ _ ha
    refine ⟨.ref a, rfl, a, rfl, ⟨_, sqT ha1⟩, lcTup (fun i H y => y = V.int 0) (fun i H H' x s h => h) (fun D i H x us ys e _ h => h) ha1 (by omega) (fun Dl i y H2 Qk Qn hy s2 nDl eDl hk => ⟨rfl, iteT (B := Qn H2) (hk _ H2 rfl (Same.refl _))⟩) (fun Cm H2 us nC s2 eC pu => ?_)⟩
    rw [lts] at pu
    obtain rfl := zeros_of pu
    clear pu
    have ha2 := s2 _ _ ha1
    refine ⟨.ref a, rfl, a, rfl, ⟨_, sqT ha2⟩, lcTup (fun i H y => y = V.int 0) (fun i H H' x s h => h) (fun D i H x us ys e _ h => h) ha2 (by omega) (fun Dl i y H2 Qk Qn hy s2 nDl eDl hk => ⟨rfl, iteT (B := Qn H2) (hk _ H2 rfl (Same.refl _))⟩) (fun Lg H3 us nG s3 eG pu => ?_)⟩
    rw [lts] at pu
    obtain rfl := zeros_of pu
    clear pu
    have s13 := s1.trans (s2.trans s3)
    refine ⟨.ref a, rfl, a, js, rfl, hj.same s13, hok, by omega, ⟨c0, c01, c030, c0d⟩, fun H4 c s4 hc1 hcd hcl => ?_⟩
    have per : Per js c := ⟨hc1, hcd⟩
    have hcb : c * ((js.map (·.r)).sum + 2) < 400 := Nat.lt_of_le_of_lt (Nat.mul_le_mul_right _ (hcl c0 c01 c0d)) c0b
    refine ⟨1, rfl, by decide, fun K0 nK => ?_⟩
    have sK := same_upd nK (o := .lst [.int (-1)])
    have s12 := s1.trans s2
    have nCH := s1.free nC
    have nGH := s12.free nG
    have nKH := (s13.trans s4).free nK
    have nCL : Cm ≠ L := fun z => by rw [z, eL] at nC; cases nC
    have nLG : L ≠ Lg := ne_of_none (s2 _ _ eL) nG
    have nCG : Cm ≠ Lg := ne_of_none eC nG
    have s0 := (s13.trans s4).trans sK
    have eL4 := sK _ _ (s4 _ _ (s3 _ _ (s2 _ _ eL)))
    have eC4 := sK _ _ (s4 _ _ (s3 _ _ eC))
    have eG4 := sK _ _ (s4 _ _ eG)
    have nLK : L ≠ K0 := ne_of_none (s4 _ _ (s3 _ _ (s2 _ _ eL))) nK
    have nCK : Cm ≠ K0 := ne_of_none (s4 _ _ (s3 _ _ eC)) nK
    have nGK : Lg ≠ K0 := ne_of_none (s4 _ _ eG) nK
    have lz : longs js 0 = List.replicate js.length 0 := by
      refine List.ext_getElem? fun i => ?_
      by_cases hi : i < js.length
      · rw [longs_get hi, List.getElem?_replicate, if_pos hi]; rfl
      · rw [List.getElem?_eq_none (by rw [longs_len]; omega), List.getElem?_eq_none (by rw [List.length_replicate]; omega)]
    refine ⟨1, rfl, ?_⟩
    refine ⟨400, rfl, by decide, by decide, ?_⟩
    refine forRg (D := { nx := _, rt := Q }) (n := 400) (fun T σ H' => ∃ (n : Nat) (st : Int) (Kp : Addr) (cm : List Nat), (∃ c2 c8 c9 c10, σ = [some (.ref a), some (.ref L), c2, some (.ref Cm), some (.ref Lg), some (.int (c : Nat)), some (.ref Kp), some (.int st), c8, c9, c10]) ∧ (L ≠ Kp ∧ Cm ≠ Kp ∧ Lg ≠ Kp) ∧ H' Kp = some (.lst ((kept js c n).map V.int)) ∧ Same H H' ∧ H' L = some (.lst (nts (lefts js T))) ∧ H' Cm = some (.lst (nts cm)) ∧ CameOk js T cm ∧ H' Lg = some (.lst (nts (longs js T))) ∧ NoM js T ∧ T ≤ c * n ∧ c * n < T + c ∧ Still js c n st)
      ⟨0, -1, K0, List.replicate js.length 0, ⟨_, _, _, _, rfl⟩, ⟨nLK, nCK, nGK⟩, upd_same, s0, eL4, eC4, ⟨by rw [List.length_replicate], fun i j x hji hx => ?_⟩, by rw [lz]; exact eG4, fun t h => by omega, by omega, by omega, .inl ⟨rfl, fun k h => by omega⟩⟩ ?_ ?_
    · have hx : (List.replicate js.length 0)[i]? = some (x + 1) := hx
      rw [List.getElem?_replicate] at hx
      split at hx <;> cases hx
    · rintro T σ H5 hT ⟨n, st, Kp, cm, ⟨c2, c8, c9, c10, rfl⟩, ⟨n1, n2, n3⟩, eK, s5, eL5, eC5, co, eG5, nm, t1, t2, stl⟩
      obtain ⟨am1, am2⟩ := at_mult hc1 t1 t2
      refine ⟨_, rfl, .inl ⟨_, rfl, _, rfl, T, c, rfl, rfl, hc1, rfl, _, rfl, ?_⟩⟩
      by_cases h0 : T % c = 0
      · have eT := am1 h0
        refine iteTq (decide_eq_true (by rw [h0]; rfl)) ⟨_, rfl, st, 0, rfl, rfl, _, rfl, ?_⟩
        rcases stl with ⟨rfl, ne⟩ | ⟨m, rfl, rfl, em, ne⟩
        · refine iteFq (by decide) ?_
          have dK : Dp K H5 (.ref Kp) (.list ((kept js c n).map PyData.int)) := dpLst eK
          have dL : Dp K H5 (.ref L) (.list ((IL (lefts js T)).map PyData.int)) := dpLst (by rw [IL_v]; exact eL5)
          refine ⟨_, rfl, _, rfl, _, _, dK, dL, shLst _, shLst _, _, rfl, ?_⟩
          by_cases he : kept js c n = IL (lefts js T)
          · refine iteTq (by rw [eqLst]; exact decide_eq_true he) ⟨_, rfl, _, rfl, L, _, rfl, .inl (sqL eL5), fun U nU => ?_⟩
            have sU := same_upd nU (o := .lst (nts (lefts js T)))
            have eU : (upd H5 U (.lst (nts (lefts js T)))) U = some (.lst ((kept js c (n + 1)).map V.int)) := by
              rw [upd_same, eT]
              show _ = some (HO.lst ((IL (lefts js (c * n))).map V.int))
              rw [IL_v]
            have s6 := s5.trans sU
            have eL6 := sU _ _ eL5
            have eC6 := sU _ _ eC5
            have eG6 := sU _ _ eG5
            have nU3 : L ≠ U ∧ Cm ≠ U ∧ Lg ≠ U := ⟨ne_of_none eL5 nU, ne_of_none eC5 nU, ne_of_none eG5 nU⟩
            generalize upd H5 U (.lst (nts (lefts js T))) = H6 at eU s6 eL6 eC6 eG6 ⊢
            cases n with
            | zero => exact absurd he kept_ne
            | succ n =>
            have em : lefts js (c * n) = lefts js (c * (n + 1)) := by rw [← eT]; exact IL_inj he
            exact rT { nx := _, rt := Q, bk := _, ct := _ } _ _ _ _ _ a L Cm Lg c T js cm H6 (hj.same s6) hok hl3 nm eL6 eC6 co eG6 nLG nCL nCG
                (fun i D' U H' hm k3 nD eD eU eG' => q D' Lg H' _ (some (i, T)) _ (fun b o e => k3 b o (ne_of_none e nL) (ne_of_none e nCH) (ne_of_none e nGH) (s6 b o e)) (s6.free nD) eD nGH eG' (longs_len js T) ⟨U, rfl, eU⟩ ⟨hm, nm⟩ fun z => nomatch z)
                (fun c9 c10 H' cm' hm k3 eL' eC' co' eG' => ⟨n + 1 + 1, ((T : Nat) : Int), U, cm', ⟨_, _, _, _, rfl⟩, nU3, k3 _ _ nU3.1.symm nU3.2.1.symm nU3.2.2.symm eU, fun b o e => k3 b o (ne_of_none e nL) (ne_of_none e nCH) (ne_of_none e nGH) (s6 b o e), eL', eC', co', eG', nm.succ hm, by rw [Nat.mul_succ, ← eT]; omega, by rw [Nat.mul_succ, ← eT]; omega, .inr ⟨n, by rw [eT], rfl, em, fun k hk => ne k (by omega)⟩⟩)
          · refine iteFq (by rw [eqLst]; exact decide_eq_false he) ⟨_, rfl, L, _, rfl, .inl (sqL eL5), fun U nU => ?_⟩
            have sU := same_upd nU (o := .lst (nts (lefts js T)))
            have eU : (upd H5 U (.lst (nts (lefts js T)))) U = some (.lst ((kept js c (n + 1)).map V.int)) := by
              rw [upd_same, eT]
              show _ = some (HO.lst ((IL (lefts js (c * n))).map V.int))
              rw [IL_v]
            have s6 := s5.trans sU
            have eL6 := sU _ _ eL5
            have eC6 := sU _ _ eC5
            have eG6 := sU _ _ eG5
            have nU3 : L ≠ U ∧ Cm ≠ U ∧ Lg ≠ U := ⟨ne_of_none eL5 nU, ne_of_none eC5 nU, ne_of_none eG5 nU⟩
            generalize upd H5 U (.lst (nts (lefts js T))) = H6 at eU s6 eL6 eC6 eG6 ⊢
            exact rT { nx := _, rt := Q, bk := _, ct := _ } _ _ _ _ _ a L Cm Lg c T js cm H6 (hj.same s6) hok hl3 nm eL6 eC6 co eG6 nLG nCL nCG
                (fun i D' U H' hm k3 nD eD eU eG' => q D' Lg H' _ (some (i, T)) _ (fun b o e => k3 b o (ne_of_none e nL) (ne_of_none e nCH) (ne_of_none e nGH) (s6 b o e)) (s6.free nD) eD nGH eG' (longs_len js T) ⟨U, rfl, eU⟩ ⟨hm, nm⟩ fun z => nomatch z)
                (fun c9 c10 H' cm' hm k3 eL' eC' co' eG' => ⟨n + 1, (-1 : Int), U, cm', ⟨_, _, _, _, rfl⟩, nU3, k3 _ _ nU3.1.symm nU3.2.1.symm nU3.2.2.symm eU, fun b o e => k3 b o (ne_of_none e nL) (ne_of_none e nCH) (ne_of_none e nGH) (s6 b o e), eL', eC', co', eG', nm.succ hm, by rw [Nat.mul_succ, ← eT]; omega, by rw [Nat.mul_succ, ← eT]; omega, .inl ⟨rfl, fun k hk => by
                  by_cases e : k + 1 = n
                  · rw [e]
                    intro z
                    apply he
                    cases n with
                    | zero => omega
                    | succ n =>
                      obtain rfl : k = n := by omega
                      show IL (lefts js (c * k)) = _
                      rw [z, eT]
                  · exact ne k (by omega)⟩⟩)
        · refine iteTq (decide_eq_true (Int.natCast_nonneg _)) ⟨_, rfl, by show 2 ≤ sizeLine; decide, fun D' nD => ?_⟩
          have sD := same_upd nD (o := .lst [.non, .ref Lg])
          exact q D' Lg _ .non none _ (s5.trans sD) (s5.free nD) upd_same nGH (sD _ _ eG5) (longs_len js T) rfl (never_of_rep per (Nat.lt_succ_self m) em (nm.mono (by rw [eT]; exact Nat.mul_le_mul_left c (by omega)))) fun _ => ⟨c, m, per, em, by rw [eT]⟩
      · obtain ⟨b1, b2⟩ := am2 h0
        refine iteFq (decide_eq_false (fun z => h0 (by injection z with z; exact_mod_cast z))) ?_
        exact rT { nx := _, rt := Q, bk := _, ct := _ } _ _ _ _ _ a L Cm Lg c T js cm H5 (hj.same s5) hok hl3 nm eL5 eC5 co eG5 nLG nCL nCG
                (fun i D' U H' hm k3 nD eD eU eG' => q D' Lg H' _ (some (i, T)) _ (fun b o e => k3 b o (ne_of_none e nL) (ne_of_none e nCH) (ne_of_none e nGH) (s5 b o e)) (s5.free nD) eD nGH eG' (longs_len js T) ⟨U, rfl, eU⟩ ⟨hm, nm⟩ fun z => nomatch z)
                (fun c9 c10 H' cm' hm k3 eL' eC' co' eG' => ⟨n, st, Kp, cm', ⟨_, _, _, _, rfl⟩, ⟨n1, n2, n3⟩, k3 _ _ n1.symm n2.symm n3.symm eK, fun b o e => k3 b o (ne_of_none e nL) (ne_of_none e nCH) (ne_of_none e nGH) (s5 b o e), eL', eC', co', eG', nm.succ hm, b1, b2, stl⟩)
    · rintro σ H5 ⟨n, st, Kp, cm, _, _, _, _, _, _, _, _, nm, t1, t2, stl⟩
      exfalso
      rcases stl with ⟨_, ne⟩ | ⟨m, _, rfl, _, ne⟩
      · have hn : n ≤ (js.map (·.r)).sum + 1 := few per ne (nm.mono (by
          cases n with
          | zero => exact Nat.zero_le _
          | succ n => rw [Nat.add_sub_cancel]; rw [Nat.mul_succ] at t2; omega))
        have := Nat.mul_le_mul_left c (show n ≤ (js.map (·.r)).sum + 2 by omega)
        omega
      · have hn : m + 1 ≤ (js.map (·.r)).sum + 1 := few per ne (nm.mono (by
          rw [Nat.add_sub_cancel]
          have e1 : c * (m + 2) = c * m + c * 2 := Nat.mul_add c m 2
          omega))
        have := Nat.mul_le_mul_left c (show m + 2 ≤ (js.map (·.r)).sum + 2 by omega)
        omega
end
end K7

set_option Elab.async false
set_option linter.all false
set_option maxRecDepth 100000
set_option maxHeartbeats 4000000
namespace K7
open PySem PySem.Spec PyProof.Rows L2 GX NdefX
/-! ### _law_refused -/
def toldR (n : Nat) : Chk → Str
  | .num => "jobs"
  | .many => "5"
  | .ok _ => if n < 2 then "place" else ""
def spRefused : Sp := fun vs H Q _ => ∃ (n : Nat) (x : V) (j : Option (List (Option (List Int)))), vs = [.int (n : Nat), x] ∧ JbAt H x j ∧ ∀ H', Same H H' → Q (.str (toldR n (chk j))) H'
section
variable {P : Program} {w : World} {K : PySem.W.Frag} {mg : Str → Option Value} {base : Heap}
theorem ok_refused {k : Nat} (D : Pr P K mg) : FnOk P w K mg base CX0 (k + 5) D._law_refused.f D._law_refused.fd ["word", "jobs"] spRefused := by
  have G_response : FnOk P w K mg base (CX P w) (k + 4) D.response.f D.response.fd ["jobs", "place"] (spResp D.BadNumber.C D.TooMany.C) := ok_response D
  have G_rows_of_response : FnOk P w K mg base (CX P w) (k + 4) D.rows_of_response.f D.rows_of_response.fd ["jobs", "place"] (spRows D.BadNumber.C D.TooMany.C) := ok_rows D
  have G_never_misses : FnOk P w K mg base (CX P w) (k + 4) D.never_misses.f D.never_misses.fd ["jobs"] (spNever D.BadNumber.C D.TooMany.C) := ok_never D
  refine D._law_refused.F.ok sc__law_refused (fun vs H Q E h => ?_) (fun cdv A outer s H vs Q E hr h => ?_)
  · obtain ⟨n, x, j, rfl, _⟩ := h
    rfl
  · obtain ⟨n, x, j, rfl, hj, q⟩ := h
    refine ⟨_, (pss_cons (ps_set (i := 2) sc__law_refused.nd rfl (.inl rfl) pe_str)
      (pss_cons (ps_try_manyA rfl rfl sc__law_refused.nd takes0 (fun W pn xe tk _ => (pss_one (ps_if (pt_cmpR op_eq (pv 0) pe_int (nomark _)) (pss_one (ps_expr (pe_callS G_response hr (by rfl) D.response.g D.response.F.kp D.response.b (fun σ => passAt tk σ) (pa_cons (pv 1) (pa_cons pe_int pa_nil))))) (pss_one (ps_if (pt_cmpR op_eq (pv 0) pe_int (nomark _)) (pss_one (ps_expr (pe_callS G_rows_of_response hr (by rfl) D.rows_of_response.g D.rows_of_response.F.kp D.rows_of_response.b (fun σ => passAt tk σ) (pa_cons (pv 1) (pa_cons (pe_un un_neg pe_int) pa_nil))))) (pss_one (ps_expr (pe_callS G_never_misses hr (by rfl) D.never_misses.g D.never_misses.F.kp D.never_misses.b (fun σ => passAt tk σ) (pa_cons (pv 1) pa_nil)))))))))
        (HdsA.named (i := 3) (c := .ref D.BadNumber.C) ⟨by rfl, by decide, .inl D.BadNumber.g⟩ rfl rfl (fun a oe cls d pn hz hv => (pss_one (ps_set (i := 2) sc__law_refused.nd rfl (.inl rfl) (pe_xf D.BadNumber.X (D.BadNumber.nf _ (by simp)) hz hv (pv 3)))))
        (HdsA.named (i := 3) (c := .ref D.TooMany.C) ⟨by rfl, by decide, .inl D.TooMany.g⟩ rfl rfl (fun a oe cls d pn hz hv => (pss_one (ps_set (i := 2) sc__law_refused.nd rfl (.inl rfl) (pe_callTy call_str_int (by rfl) D.B.str (by decide +kernel) (pa_cons (pe_xf D.TooMany.X (D.TooMany.nf _ (by simp)) hz hv (pv 3)) pa_nil)))))
        HdsA.nil)))
      (pss_one (ps_ret (pv 2))))), ?_⟩
    refine ⟨.int n, rfl, rfl, _, rfl, ?_⟩
    by_cases h0 : n = 0
    · refine iteTq (decide_eq_true (by rw [h0]; rfl)) ⟨x, rfl, x, j, 9, rfl, hj, ?_⟩
      cases hc : chk j with
      | num => rw [hc] at q; exact fun d H' s' e => ⟨true, D.x_BadNumber_BadNumber, fun _ a na => ⟨.ref a, rfl, rfl, rfl, d, _, .str "jobs", rfl, e, rfl, .str "jobs", rfl, q H' s'⟩, fun z => Bool.noConfusion z⟩
      | many => rw [hc] at q; exact fun d H' s' e => ⟨false, D.x_TooMany_BadNumber, fun z => Bool.noConfusion z, fun _ => ⟨true, D.x_TooMany_TooMany, fun _ a na => ⟨.ref a, rfl, rfl, rfl, d, _, .int 5, rfl, e, rfl, 5, rfl, by decide, .str "5", rfl, q H' s'⟩, fun z => Bool.noConfusion z⟩⟩
      | ok js =>
        rw [hc] at q
        have hl := (chk_ok hc).1
        rw [toldR, if_pos (by omega)] at q
        rw [Chkd, if_neg (by omega)]
        exact fun d H' s' e => ⟨true, D.x_BadNumber_BadNumber, fun _ a na => ⟨.ref a, rfl, rfl, rfl, d, _, .str "place", rfl, e, rfl, .str "place", rfl, q H' s'⟩, fun z => Bool.noConfusion z⟩
    refine iteFq (decide_eq_false fun z => h0 (by have := V.int.inj z; omega)) ⟨.int n, rfl, rfl, _, rfl, ?_⟩
    by_cases h1 : n = 1
    · refine iteTq (decide_eq_true (by rw [h1]; rfl)) ⟨x, rfl, 1, rfl, x, j, -1, rfl, hj, ?_⟩
      cases hc : chk j with
      | num => rw [hc] at q; exact fun d H' s' e => ⟨true, D.x_BadNumber_BadNumber, fun _ a na => ⟨.ref a, rfl, rfl, rfl, d, _, .str "jobs", rfl, e, rfl, .str "jobs", rfl, q H' s'⟩, fun z => Bool.noConfusion z⟩
      | many => rw [hc] at q; exact fun d H' s' e => ⟨false, D.x_TooMany_BadNumber, fun z => Bool.noConfusion z, fun _ => ⟨true, D.x_TooMany_TooMany, fun _ a na => ⟨.ref a, rfl, rfl, rfl, d, _, .int 5, rfl, e, rfl, 5, rfl, by decide, .str "5", rfl, q H' s'⟩, fun z => Bool.noConfusion z⟩⟩
      | ok js =>
        rw [hc] at q
        rw [toldR, if_pos (by omega)] at q
        rw [Chkd, if_neg (by omega)]
        exact fun d H' s' e => ⟨true, D.x_BadNumber_BadNumber, fun _ a na => ⟨.ref a, rfl, rfl, rfl, d, _, .str "place", rfl, e, rfl, .str "place", rfl, q H' s'⟩, fun z => Bool.noConfusion z⟩
    refine iteFq (decide_eq_false fun z => h1 (by have := V.int.inj z; omega)) ⟨x, rfl, x, j, rfl, hj, ?_⟩
    cases hc : chk j with
    | num => rw [hc] at q; exact fun d H' s' e => ⟨true, D.x_BadNumber_BadNumber, fun _ a na => ⟨.ref a, rfl, rfl, rfl, d, _, .str "jobs", rfl, e, rfl, .str "jobs", rfl, q H' s'⟩, fun z => Bool.noConfusion z⟩
    | many => rw [hc] at q; exact fun d H' s' e => ⟨false, D.x_TooMany_BadNumber, fun z => Bool.noConfusion z, fun _ => ⟨true, D.x_TooMany_TooMany, fun _ a na => ⟨.ref a, rfl, rfl, rfl, d, _, .int 5, rfl, e, rfl, 5, rfl, by decide, .str "5", rfl, q H' s'⟩, fun z => Bool.noConfusion z⟩⟩
    | ok js =>
      rw [hc] at q
      rw [toldR, if_neg (by omega)] at q
      exact fun H' b s' e => ⟨.str "", rfl, q H' s'⟩
end
end K7

set_option Elab.async false
set_option linter.all false
set_option maxRecDepth 100000
set_option maxHeartbeats 4000000
namespace K7
open PySem PySem.Spec PyProof.Rows L2 GX NdefX
/-! ### _law_refusals_fit -/
def itsOf (js : List Job) : List (Option (List Int)) := js.map fun j => some (ji j)
theorem its_at {H : Hp} {ts : List V} {js : List Job} (p : TupsT H ts (js.map jv)) : Paired (ItAt H) ts (itsOf js) := by
  unfold itsOf
  refine paired_map (g := fun j => some (ji j)) ?_
  have key : ∀ {ts : List V} (js : List Job), TupsT H ts (js.map jv) → Paired (fun x j => ItAt H x (some (ji j))) ts js := by
    intro ts js
    induction js generalizing ts with
    | nil => intro p; cases p; exact .nil
    | cons j js ih =>
      intro p
      cases p with
      | cons f r =>
        obtain ⟨b, e, h⟩ := f
        exact .cons ⟨b, e, .inr h, by show 3 ≤ 1000; decide⟩ (ih r)
  exact key js p
theorem jb_of {H : Hp} {a : Addr} {js : List Job} (h : JobsT H a js) (hl : js.length ≤ 1000) : JbAt H (.ref a) (some (itsOf js)) := by
  obtain ⟨ts, e, p⟩ := h
  exact ⟨a, ts, rfl, .inr e, its_at p, by unfold itsOf; rw [List.length_map]; exact hl⟩
theorem chk_good {js : List Job} (hok : ∀ j ∈ js, JOk j) (hl : js.length ≤ 5) : chk (some (itsOf js)) = .ok js := by
  show (if 5 < (itsOf js).length then Chk.many else if (itsOf js).all goodI = true then .ok ((itsOf js).map toJ) else .num) = .ok js
  have e1 : (itsOf js).length = js.length := by unfold itsOf; rw [List.length_map]
  have e2 : (itsOf js).all goodI = true := by
    unfold itsOf
    rw [List.all_map, List.all_eq_true]
    exact fun j hj => good_ji (hok j hj)
  have e3 : (itsOf js).map toJ = js := by
    unfold itsOf
    rw [List.map_map]
    have : (toJ ∘ fun j => some (ji j)) = id := by funext j; exact toJ_ji j
    rw [this, List.map_id]
  rw [if_neg (by omega), if_pos e2, e3]
theorem chk_bad {its : List (Option (List Int))} {it : Option (List Int)} (h : it ∈ its) (hb : goodI it = false) (hl : its.length ≤ 5) : chk (some its) = .num := by
  show (if 5 < its.length then Chk.many else if its.all goodI = true then .ok (its.map toJ) else .num) = .num
  rw [if_neg (by omega), if_neg fun z => by rw [List.all_eq_true.mp z it h] at hb; cases hb]
theorem JobsT.b {N a : Addr} {H H' : Hp} {js : List Job} (n : NumsAt H N) (s : SameB N H H') (h : JobsT H a js) : JobsT H' a js := by
  obtain ⟨ts, e, p⟩ := h
  obtain ⟨l, en, _⟩ := id n
  exact ⟨ts, s _ _ (fun z => by rw [z, en] at e; cases e) e, tupsB n s p⟩
theorem its_len (js : List Job) : (itsOf js).length = js.length := by unfold itsOf; rw [List.length_map]
theorem neS {z y : Str} (h : z = y) : (!decide (V.str z = V.str y)) = false := by
  rw [h, decide_eq_true rfl]
  rfl
def bads : List (Option (List Int)) := [some [0, 4, 0], some [13, 24, 0], some [1, 25, 0], some [1, 0, 0], some [1, 4, 4], some [1, 4, -1], some [1, 4], none]
theorem bads_bad : ∀ it ∈ bads, goodI it = false := by decide
def spRfit : Sp := fun vs H Q _ => ∃ (N a : Addr) (js : List Job), vs = [.ref N, .ref a] ∧ NumsAt H N ∧ JobsT H a js ∧ (∀ j ∈ js, JOk j) ∧ 1 ≤ js.length ∧ js.length ≤ 5 ∧ ∀ H', SameB N H H' → NumsAt H' N → Q (.bl true) H'
theorem strs_of {us : List V} {f : Nat → V} {n : Nat} (p : Paired (fun (x : V) (i : Nat) => x = f i) us (List.range n)) : us = (List.range n).map f := paired_eq p
section
variable {P : Program} {w : World} {K : PySem.W.Frag} {mg : Str → Option Value} {base : Heap}
theorem ok_rfit {k : Nat} (D : Pr P K mg) : FnOk P w K mg base CX0 (k + 6) D._law_refusals_fit.f D._law_refusals_fit.fd ["numbers", "jobs"] spRfit := by
  have G__law_draw : FnOk P w K mg base CX0 (k + 1) D._law_draw.f D._law_draw.fd ["numbers", "many"] spDraw := ok_drawD D
  have G__law_refused : FnOk P w K mg base CX0 (k + 5) D._law_refused.f D._law_refused.fd ["word", "jobs"] spRefused := ok_refused D
  refine D._law_refusals_fit.F.ok sc__law_refusals_fit (fun vs H Q E h => ?_) (fun cdv A outer s H vs Q E hr h => ?_)
  · obtain ⟨N, a, js, rfl, _⟩ := h
    rfl
  · obtain ⟨N, a, js, rfl, hn, jt, hok, hl1, hl5, q⟩ := h
    refine ⟨_, (pss_cons (ps_set (i := 2) sc__law_refusals_fit.nd rfl (.inl rfl) (pe_call G__law_draw (hr.mono (by omega)) (by rfl) D._law_draw.g D._law_draw.F.kp D._law_draw.b .nil pass0 (pa_cons (pv 0) (pa_cons (pe_callB call_len (by rfl) D.B.len PySem.boot_len (pa_cons (pv 1) pa_nil)) pa_nil))))
      (pss_cons (ps_for PassesOwn.never rfl (pi_range1 (by rfl) D.B.range (pa_cons pe_int pa_nil)) (pg_name (i := 3) sc__law_refusals_fit.nd rfl (.inl rfl)) (pss_cons (ps_for PassesOwn.never rfl (pi_list (pe_lst (pa_cons (pe_tup (pa_cons pe_int (pa_cons pe_int (pa_cons pe_int pa_nil)))) (pa_cons (pe_tup (pa_cons pe_int (pa_cons pe_int (pa_cons pe_int pa_nil)))) (pa_cons (pe_tup (pa_cons pe_int (pa_cons pe_int (pa_cons pe_int pa_nil)))) (pa_cons (pe_tup (pa_cons pe_int (pa_cons pe_int (pa_cons pe_int pa_nil)))) (pa_cons (pe_tup (pa_cons pe_int (pa_cons pe_int (pa_cons pe_int pa_nil)))) (pa_cons (pe_tup (pa_cons pe_int (pa_cons pe_int (pa_cons (pe_un un_neg pe_int) pa_nil)))) (pa_cons (pe_tup (pa_cons pe_int (pa_cons pe_int pa_nil))) (pa_cons pe_int pa_nil)))))))))) (pg_name (i := 4) sc__law_refusals_fit.nd rfl (.inl rfl)) (pss_one (ps_if (pt_cmpR op_ne (pe_call G__law_refused hr (by rfl) D._law_refused.g D._law_refused.F.kp D._law_refused.b .nil pass0 (pa_cons (pv 3) (pa_cons (pe_op (r := rCatA K) op_catA (pe_op (r := rCatA K) op_catA (pe_slice sl_tupA (pv 1) po_none (po_some (pv 2))) (pe_tup (pa_cons (pv 4) pa_nil))) (pe_slice sl_tupA (pv 1) (po_some (pe_op (r := rAddN) op_AddN (pv 2) pe_int)) po_none)) pa_nil))) pe_str (nomark _)) (pss_one (ps_ret pe_bl)) pss_nil))) (pss_one (ps_if (PW.pt (pw_or (pt_cmpR op_ne (pe_call G__law_refused hr (by rfl) D._law_refused.g D._law_refused.F.kp D._law_refused.b .nil pass0 (pa_cons (pv 3) (pa_cons (pe_op (r := rRepA K) op_repA (pe_tup (pa_cons (pe_tup (pa_cons pe_int (pa_cons pe_int (pa_cons pe_int pa_nil)))) pa_nil)) pe_int) pa_nil))) pe_str (nomark _)) (pw_or1 (pt_cmpR op_ne (pe_call G__law_refused hr (by rfl) D._law_refused.g D._law_refused.F.kp D._law_refused.b .nil pass0 (pa_cons (pv 3) (pa_cons pe_int pa_nil))) pe_str (nomark _))))) (pss_one (ps_ret pe_bl)) pss_nil))))
      (pss_one (ps_ret (pe_cmpR (op_eqD hr.units) (pe_lc (own := [("word", 3)]) (g := (gName 3)) (tt := tYes) rfl sc__law_refusals_fit.nd (pi_range1 (by rfl) D.B.range (pa_cons pe_int pa_nil)) (blkOk_by (own := [("word", 3)]) (N := n__law_refusals_fit) (sc := defScope s__law_refusals_fit) (by decide +kernel)) (fun _ _ _ _ _ => (pg_name (i := 3) sc__law_refusals_fit.nd rfl (.inl rfl))) (fun _ _ _ _ _ => pts_nil) (fun _ _ _ _ _ => (pe_call G__law_refused hr (by rfl) D._law_refused.g D._law_refused.F.kp D._law_refused.b .nil pass0 (pa_cons (pv 3) (pa_cons (pv 1) pa_nil))))) (pe_lst (pa_cons pe_str (pa_cons pe_str (pa_cons pe_str pa_nil)))) (nomark _)))))), ?_⟩
    obtain ⟨ts0, ha0, pt0⟩ := id jt
    refine ⟨.ref N, rfl, .ref a, rfl, .ref a, js.length, rfl, .inr ⟨_, sqT ha0, (jt_len pt0).symm⟩, N, js.length, rfl, hl1, hn, fun H5 r hrl s5 n5 => ?_⟩
    have jt5 := jt.b hn s5
    clear ha0 pt0 ts0
    have cg := chk_good hok hl5
    refine ⟨3, rfl, by decide, by decide, ?_⟩
    refine forRg (D := { nx := _, rt := Q }) (n := 3) (fun i σ H' => (∃ c3 c4, σ = [some (.ref N), some (.ref a), some (.int (r : Nat)), c3, c4]) ∧ Same H5 H') ⟨⟨_, _, rfl⟩, Same.refl _⟩ ?_ ?_
    · rintro i σ H6 hi ⟨⟨c3, c4, rfl⟩, s6⟩
      have jt6 := jt5.same s6
      refine ⟨by show 3 ≤ sizeLine; decide, fun A0 nA0 => ⟨by show 3 ≤ sizeLine; decide, fun A1 nA1 => ⟨by show 3 ≤ sizeLine; decide, fun A2 nA2 => ⟨by show 3 ≤ sizeLine; decide, fun A3 nA3 => ⟨by show 3 ≤ sizeLine; decide, fun A4 nA4 => ⟨1, rfl, by show 3 ≤ sizeLine; decide, fun A5 nA5 => ⟨by show 2 ≤ sizeLine; decide, fun A6 nA6 => ⟨by show 8 ≤ sizeLine; decide, fun L nL => ⟨L, rfl, ⟨_, sqL upd_same⟩, ?_⟩⟩⟩⟩⟩⟩⟩⟩⟩
      have sL := same_upd nL (o := .lst [.ref A0, .ref A1, .ref A2, .ref A3, .ref A4, .ref A5, .ref A6, .int 3])
      have sA6 := (same_upd nA6 (o := .tup [.int 1, .int 4])).trans sL
      have sA5 := (same_upd nA5 (o := .tup [.int 1, .int 4, .int (-1)])).trans sA6
      have sA4 := (same_upd nA4 (o := .tup [.int 1, .int 4, .int 4])).trans sA5
      have sA3 := (same_upd nA3 (o := .tup [.int 1, .int 0, .int 0])).trans sA4
      have sA2 := (same_upd nA2 (o := .tup [.int 1, .int 25, .int 0])).trans sA3
      have sA1 := (same_upd nA1 (o := .tup [.int 13, .int 24, .int 0])).trans sA2
      have sA0 := (same_upd nA0 (o := .tup [.int 0, .int 4, .int 0])).trans sA1
      refine forLs (D := { nx := _, rt := Q }) (xs := [.ref A0, .ref A1, .ref A2, .ref A3, .ref A4, .ref A5, .ref A6, .int 3]) (fun m σ H' => (∃ c4, σ = [some (.ref N), some (.ref a), some (.int (r : Nat)), some (.int (i : Nat)), c4]) ∧ Same H6 H' ∧ H' L = some (.lst [.ref A0, .ref A1, .ref A2, .ref A3, .ref A4, .ref A5, .ref A6, .int 3]) ∧ Paired (ItAt H') [.ref A0, .ref A1, .ref A2, .ref A3, .ref A4, .ref A5, .ref A6, .int 3] bads) upd_same
        ⟨⟨_, rfl⟩, sA0, upd_same, (.cons ⟨A0, rfl, .inr (sA1 _ _ upd_same), by decide⟩ (.cons ⟨A1, rfl, .inr (sA2 _ _ upd_same), by decide⟩ (.cons ⟨A2, rfl, .inr (sA3 _ _ upd_same), by decide⟩ (.cons ⟨A3, rfl, .inr (sA4 _ _ upd_same), by decide⟩ (.cons ⟨A4, rfl, .inr (sA5 _ _ upd_same), by decide⟩ (.cons ⟨A5, rfl, .inr (sA6 _ _ upd_same), by decide⟩ (.cons ⟨A6, rfl, .inr (sL _ _ upd_same), by decide⟩ (.cons (.inr (.inl ⟨3, rfl⟩)) .nil))))))))⟩ (fun m σ H' h => h.2.2.1) ?_ ?_
      · rintro m x σ H7 hx0 ⟨⟨c4, rfl⟩, s7, eL, pb⟩
        obtain ⟨it, hit, hx⟩ := paired_get pb hx0
        have hbad := bads_bad it (List.mem_of_getElem? hit)
        have jt7 := jt6.same s7
        refine ⟨.int i, rfl, ?_⟩
        obtain ⟨tsz, haz, ptz⟩ := id jt7
        refine ⟨.ref a, rfl, .int r, rfl, (r : Nat), rfl, slA haz fun S1z Haz saz eaz => ?_⟩
        rw [cut_to] at eaz
        have ltz := jt_len ptz
        refine ⟨_, rfl, by show 1 ≤ sizeLine; decide, fun Uz nUz => ?_⟩
        have sUz := same_upd nUz (o := .tup [x])
        have hxz : ItAt (upd Haz Uz (.tup [x])) x it := hx.same (saz.trans sUz)
        refine catA (sUz _ _ eaz) upd_same (by rw [List.length_take]; show min r tsz.length + 1 ≤ 1000; omega) fun S2z Hcz scz ecz => ?_
        have sacz := saz.trans (sUz.trans scz)
        refine ⟨.ref a, rfl, .int r, rfl, r, 1, rfl, rfl, ((r + 1 : Nat) : Int), rfl, ?_⟩
        try delta tNoPart
        refine slA (sacz _ _ haz) fun S3z Hdz sdz edz => ?_
        rw [cut_from] at edz
        refine catA (sdz _ _ ecz) edz (by rw [List.length_append, List.length_take, List.length_drop]; show min r tsz.length + 1 + _ ≤ 1000; omega) fun S4z Hez sez eez => ?_
        have sz := sacz.trans (sdz.trans sez)
        have piz := its_at (ptz.same sz)
        have ppz : Paired (ItAt Hez) ((tsz.take r ++ [x]) ++ tsz.drop (r + 1)) (((itsOf js).take r ++ [it]) ++ (itsOf js).drop (r + 1)) := paired_app (paired_app (paired_take piz r).1 (.cons (hxz.same (scz.trans (sdz.trans sez))) .nil)) (paired_take piz (r + 1)).2
        have liz : (((itsOf js).take r ++ [it]) ++ (itsOf js).drop (r + 1)).length ≤ 5 := by
          rw [List.length_append, List.length_append, List.length_take, List.length_drop, List.length_singleton, its_len]
          omega
        have jbz : JbAt Hez (.ref S4z) (some (((itsOf js).take r ++ [it]) ++ (itsOf js).drop (r + 1))) := ⟨S4z, _, rfl, .inr eez, ppz, by omega⟩
        refine ⟨i, .ref S4z, _, rfl, jbz, fun H8 s8 => ⟨rfl, _, rfl, iteFq (neS ?_) ⟨⟨_, rfl⟩, s7.trans (sz.trans s8), s8 _ _ (sz _ _ eL), paired_imp (fun _ _ h => h.same (sz.trans s8)) pb⟩⟩⟩
        rw [chk_bad (it := it) (by simp) hbad liz]
        rfl
      · rintro σ H7 ⟨⟨c4, rfl⟩, s7, eL, pb⟩
        refine ⟨.int i, rfl, by show 3 ≤ sizeLine; decide, fun B0 nB0 => ⟨by show 1 ≤ sizeLine; decide, fun B1 nB1 => ⟨B1, 6, [.ref B0], rfl, rfl, sqT upd_same, by simp, by decide, by decide, by show 1 ≤ 1000; decide, fun z => absurd z (by decide), fun _ p np => ?_⟩⟩⟩
        have sp := same_upd np (o := .tup [.ref B0, .ref B0, .ref B0, .ref B0, .ref B0, .ref B0])
        have sB1 := (same_upd nB1 (o := .tup [.ref B0])).trans sp
        have sB0 := (same_upd nB0 (o := .tup [.int 1, .int 6, .int 0])).trans sB1
        have hb : ItAt (upd (upd (upd H7 B0 (.tup [.int 1, .int 6, .int 0])) B1 (.tup [.ref B0])) p (.tup [.ref B0, .ref B0, .ref B0, .ref B0, .ref B0, .ref B0])) (.ref B0) (some [1, 6, 0]) := ⟨B0, rfl, .inr (sB1 _ _ upd_same), by decide⟩
        refine ⟨i, .ref p, some [some [1, 6, 0], some [1, 6, 0], some [1, 6, 0], some [1, 6, 0], some [1, 6, 0], some [1, 6, 0]], rfl, ⟨p, _, rfl, .inr upd_same, .cons hb (.cons hb (.cons hb (.cons hb (.cons hb (.cons hb .nil))))), by decide⟩, fun H8 s8 => ⟨rfl, _, rfl, iteFq (neS rfl) ?_⟩⟩
        refine ⟨.int i, rfl, i, .int 7, none, rfl, .inr (.inl ⟨7, rfl⟩), fun H9 s9 => ⟨rfl, _, rfl, iteFq (neS rfl) ⟨⟨_, _, rfl⟩, s6.trans (s7.trans (sB0.trans (s8.trans s9)))⟩⟩⟩
    · rintro σ H6 ⟨⟨c3, c4, rfl⟩, s6⟩
      have jt6 := jt5.same s6
      refine ⟨3, rfl, by decide, by decide, lcRngP (n := 3) (fun i H y => y = .str (toldR i (.ok js))) (fun _ _ _ _ _ h => h) (fun _ _ _ _ _ _ _ _ h => h) (by decide) (fun Dl i H7 Qk Qn hi s7 nDl eDl hk => ⟨rfl, iteT (B := Qn H7) ⟨.int i, rfl, .ref a, rfl, i, .ref a, some (itsOf js), rfl, jb_of (jt6.same s7) (by omega), fun H8 s8 => by rw [cg]; exact hk _ H8 rfl s8⟩⟩) (fun Dl H7 us nDl s7 eDl pu => ?_)⟩
      obtain rfl := strs_of pu
      refine ⟨by decide, fun B nB => ⟨.list [.str "place", .str "place", .str ""], .list [.str "place", .str "place", .str ""], ?_, ?_, by decide +kernel, by decide +kernel, ?_⟩⟩
      · exact .lst (sqL (same_upd nB _ _ eDl)) (.cons (.str _) (.cons (.str _) (.cons (.str _) .nil)))
      · exact .lst (sqL upd_same) (.cons (.str _) (.cons (.str _) (.cons (.str _) .nil)))
      · have : PyData.eqv (.list [.str "place", .str "place", .str ""]) (.list [.str "place", .str "place", .str ""]) = true := by decide +kernel
        rw [this]
        have sB := same_upd nB (o := .lst [.str "place", .str "place", .str ""])
        exact q _ (s5.trans (sameB_of (s6.trans (s7.trans sB)))) (n5.same (s6.trans (s7.trans sB)))
end
end K7

set_option Elab.async false
set_option linter.all false
set_option maxRecDepth 100000
set_option maxHeartbeats 4000000
namespace K7
open PySem PySem.Spec PyProof.Rows L2 GX NdefX
/-! ### _law_rows_fit -/
def spRowsFit : Sp := fun vs H Q _ => ∃ (a : Addr) (js : List Job), vs = [.ref a] ∧ JobsT H a js ∧ (∀ j ∈ js, JOk j) ∧ js.length ≤ 5 ∧ ∀ H', Same H H' → Q (.bl true) H'
theorem chkd_good {CN CM : Addr} {E : XK} {H : Hp} {ok : List Job → Prop} {js : List Job} (hok : ∀ j ∈ js, JOk j) (hl : js.length ≤ 5) (h : ok js) : Chkd CN CM E H ok (chk (some (itsOf js))) := by
  rw [chk_good hok hl]
  exact h
theorem neD {d e : PyData} (h : PyData.eqv d e = true) : (!PyData.eqv d e) = false := by rw [h]; rfl
theorem IL_v2 (l : List Nat) : nts l = (IL l).map V.int := (IL_v l).symm
section
variable {P : Program} {w : World} {K : PySem.W.Frag} {mg : Str → Option Value} {base : Heap}
theorem ok_rowsfit {k : Nat} (D : Pr P K mg) : FnOk P w K mg base (CX P w) (k + 5) D._law_rows_fit.f D._law_rows_fit.fd ["jobs"] spRowsFit := by
  have G__law_responses : FnOk P w K mg base CX0 (k + 1) D._law_responses.f D._law_responses.fd ["jobs", "place"] spResps := ok_resps D
  have G_response : FnOk P w K mg base (CX P w) (k + 4) D.response.f D.response.fd ["jobs", "place"] (spResp D.BadNumber.C D.TooMany.C) := ok_response D
  have G_rows_of_response : FnOk P w K mg base (CX P w) (k + 4) D.rows_of_response.f D.rows_of_response.fd ["jobs", "place"] (spRows D.BadNumber.C D.TooMany.C) := ok_rows D
  have G_never_misses : FnOk P w K mg base (CX P w) (k + 4) D.never_misses.f D.never_misses.fd ["jobs"] (spNever D.BadNumber.C D.TooMany.C) := ok_never D
  have G__law_int : FnOk P w K mg base CX0 (k + 1) D._law_int.f D._law_int.fd ["value"] spInt := ok_intD D
  refine D._law_rows_fit.F.okX sc__law_rows_fit (fun vs H Q E h => ?_) (fun cdv A outer s H vs Q E hr h => ?_)
  · obtain ⟨a, js, rfl, _⟩ := h
    rfl
  · obtain ⟨a, js, rfl, hj, hok, hl, q⟩ := h
    obtain ⟨ts, ha, pt⟩ := id hj
    have lts := jt_len pt
    refine ⟨_, (pss_cons (ps_set (i := 1) sc__law_rows_fit.nd rfl (.inl rfl) pe_bl)
      (pss_cons (ps_for (by passes_own) rfl (pi_range1 (by rfl) D.B.range (pa_cons (pe_callB call_len (by rfl) D.B.len PySem.boot_len (pa_cons (pv 0) pa_nil)) pa_nil)) (pg_name (i := 2) sc__law_rows_fit.nd rfl (.inl rfl)) (pss_cons (ps_set (i := 3) sc__law_rows_fit.nd rfl (.inl rfl) (pe_call G__law_responses (hr.mono (by omega)) (by rfl) D._law_responses.g D._law_responses.F.kp D._law_responses.b .nil pass0 (pa_cons (pv 0) (pa_cons (pv 2) pa_nil)))) (pss_cons (ps_set (i := 4) sc__law_rows_fit.nd rfl (.inl rfl) (pe_call G_rows_of_response hr (by rfl) D.rows_of_response.g D.rows_of_response.F.kp D.rows_of_response.b .nil (passes_call (takes_of rfl rfl rfl rfl) (fun _ _ _ _ h => h)) (pa_cons (pv 0) (pa_cons (pv 2) pa_nil)))) (pss_cons (ps_if (PW.pt (pw_or (pt_not (pt_val (pe_callB call_isi (by rfl) D.B.isinstance (by decide +kernel) (pa_cons (pv 4) (pa_cons (pe_bltn (v := .ty "tuple") (u := .type "tuple") (by rfl) D.B.tuple (by decide +kernel) rfl) pa_nil))))) (pw_or1 (pt_cmpR (op_neD hr.units) (pv 4) (pe_callTy call_tuple_of (by rfl) D.B.tuple (by decide +kernel) (pa_cons (pv 3) pa_nil)) (nomark _))))) (pss_one (ps_ret pe_bl)) pss_nil) (pss_cons (ps_for (by passes_own) rfl (pi_tup (pv 4)) (pg_name (i := 5) sc__law_rows_fit.nd rfl (.inl rfl)) (pss_one (ps_if (pt_not (pt_val (pe_call G__law_int (hr.mono (by omega)) (by rfl) D._law_int.g D._law_int.F.kp D._law_int.b .nil pass0 (pa_cons (pv 5) pa_nil)))) (pss_one (ps_ret pe_bl)) pss_nil))) (pss_cons (ps_set (i := 6) sc__law_rows_fit.nd rfl (.inl rfl) (pe_ix (r := rIxL K) ix_list (pv 3) (pe_op (r := rSubN) op_SubN (pe_callB call_len (by rfl) D.B.len PySem.boot_len (pa_cons (pv 3) pa_nil)) pe_int) (fun _ _ => rfl))) (pss_cons (ps_set (i := 7) sc__law_rows_fit.nd rfl (.inl rfl) (pe_call G_response hr (by rfl) D.response.g D.response.F.kp D.response.b .nil (passes_call (takes_of rfl rfl rfl rfl) (fun _ _ _ _ h => h)) (pa_cons (pv 0) (pa_cons (pv 2) pa_nil)))) (pss_one (ps_if (pt_cmpR op_gt (pv 6) (pe_ix (r := rIxT K) ix_tup (pe_ix (r := rIxT K) ix_tup (pv 0) (pv 2) (fun _ _ => rfl)) pe_int (fun _ _ => rfl)) (nomark _)) (pss_cons (ps_set (i := 1) sc__law_rows_fit.nd rfl (.inl rfl) pe_bl) (pss_one (ps_if (pt_cmpR op_notN (pv 7) pe_non (nomark _)) (pss_one (ps_ret pe_bl)) pss_nil))) (pss_one (ps_if (PW.pt (pw_or (pt_not (pt_val (pe_call G__law_int (hr.mono (by omega)) (by rfl) D._law_int.g D._law_int.F.kp D._law_int.b .nil pass0 (pa_cons (pv 7) pa_nil)))) (pw_or1 (pt_cmpR (op_neD hr.units) (pv 7) (pv 6) (nomark _))))) (pss_one (ps_ret pe_bl)) pss_nil)))))))))))
      (pss_cons (ps_set (i := 4) sc__law_rows_fit.nd rfl (.inl rfl) (pe_call G_never_misses hr (by rfl) D.never_misses.g D.never_misses.F.kp D.never_misses.b .nil (passes_call (takes_of rfl rfl rfl rfl) (fun _ _ _ _ h => h)) (pa_cons (pv 0) pa_nil)))
      (pss_one (ps_ret (pe_and (pe_callB call_isi (by rfl) D.B.isinstance (by decide +kernel) (pa_cons (pv 4) (pa_cons (pe_bltn (v := .ty "bool") (u := .type "bool") (by rfl) D.B.bool (by decide +kernel) rfl) pa_nil))) (pe_one (pe_cmpR (op_eqD hr.units) (pv 4) (pv 1) (nomark _))))))))), ?_⟩
    refine ⟨.ref a, rfl, .ref a, js.length, rfl, .inr ⟨_, sqT ha, lts.symm⟩, (js.length : Nat), rfl, by omega, by omega, ?_⟩
    refine forRg (D := { nx := _, rt := Q }) (n := js.length) (fun i σ H' => (∃ well c2 c3 c4 c5 c6 c7, σ = [some (.ref a), some (.bl well), c2, c3, c4, c5, c6, c7] ∧ (well = true ↔ ∀ m, m < i → Feas js m)) ∧ Same H H') ⟨⟨true, _, _, _, _, _, _, rfl, by simp⟩, Same.refl _⟩ ?_ ?_
    · rintro i σ H2 hi ⟨⟨well, c2, c3, c4, c5, c6, c7, rfl, hw⟩, s2⟩
      have jt2 := hj.same s2
      have hji := List.getElem?_eq_getElem hi
      have ej := jobAt_get hji
      have jk := hok _ (List.mem_of_getElem? hji)
      refine ⟨.ref a, rfl, .int i, rfl, a, js, i, rfl, jt2, hok, hi, hl, fun R H3 s3 nR eR => ?_⟩
      have jt3 := jt2.same s3
      refine ⟨.ref a, rfl, .int i, rfl, .ref a, some (itsOf js), (i : Nat), rfl, jb_of jt3 (by omega), chkd_good hok hl ?_⟩
      rw [if_pos (by omega), Int.toNat_natCast]
      refine fun T H4 s4 eT => ?_
      refine ⟨_, rfl, _, _, .type "tuple", _, true, rfl, .ty "tuple", .base (.tup eT), kit_ty (by decide +kernel), true, rfl, iteF ?_⟩
      have eR4 := s4 _ _ eR
      refine ⟨_, rfl, _, rfl, R, _, rfl, .inl ⟨sqL eR4, fun U nU => ?_⟩⟩
      have sU := same_upd nU (o := .tup (nts (rowL js i)))
      have eT5 := sU _ _ eT
      have eR5 := sU _ _ eR4
      have eU : (upd H4 U (.tup (nts (rowL js i)))) U = some (.tup (nts (rowL js i))) := upd_same
      have s25 := s3.trans (s4.trans sU)
      generalize upd H4 U (.tup (nts (rowL js i))) = H5 at eT5 eR5 eU s25 ⊢
      refine ⟨_, _, dpI (ks := IL (rowL js i)) (by rw [IL_v]; exact eT5), dpI (ks := IL (rowL js i)) (by rw [IL_v]; exact eU), shI _, shI _, _, rfl, iteFq (neD (eqIr _)) ?_⟩
      refine ⟨.ref T, rfl, T, rfl, ⟨_, sqT eT5⟩, ?_⟩
      refine forTt (D := { nx := _, rt := Q }) (fun m σ H' => (∃ c5, σ = [some (.ref a), some (.bl well), some (.int (i : Nat)), some (.ref R), some (.ref T), c5, c6, c7]) ∧ Same H5 H') eT5 ⟨⟨_, rfl⟩, Same.refl _⟩ (fun i σ H' o p e => p.2 _ _ e) ?_ ?_
      · rintro m x σ H6 hx ⟨⟨c5, rfl⟩, s6⟩
        unfold nts at hx
        rw [List.getElem?_map] at hx
        obtain ⟨y, _, rfl⟩ := Option.map_eq_some_iff.mp hx
        exact ⟨_, rfl, _, rfl, true, rfl, iteF ⟨⟨_, rfl⟩, s6⟩⟩
      · rintro σ H6 ⟨⟨c5, rfl⟩, s6⟩
        obtain ⟨y, hy, hyf⟩ := rowL_last (js := js) (i := i) (by rw [ej]; exact jk)
        have lr : 1 ≤ (rowL js i).length := by
          rcases Nat.eq_zero_or_pos (rowL js i).length with z | z
          · rw [List.eq_nil_of_length_eq_zero z] at hy; cases hy
          · exact z
        have hyl : (rowL js i)[(rowL js i).length - 1]? = some y := by rw [List.getLast?_eq_getElem?] at hy; exact hy
        have eR6 := s6 _ _ eR5
        have s26 := s25.trans s6
        refine ⟨_, rfl, .ref R, rfl, .ref R, (rowL js i).length, rfl, .inl ⟨_, sqL eR6, (nts_len _).symm⟩, (rowL js i).length, 1, rfl, rfl, lr, R, _, (((rowL js i).length - 1 : Nat) : Int), _, rfl, rfl, sqL eR6, atI_nat (nts_at hyl), ?_⟩
        have jt6 := jt2.same s26
        refine ⟨.ref a, rfl, .int i, rfl, .ref a, some (itsOf js), (i : Nat), rfl, jb_of jt6 (by omega), chkd_good hok hl ?_⟩
        rw [if_pos (by omega), Int.toNat_natCast]
        rintro v H7 s7 ⟨y', hy', hv⟩
        rw [hy] at hy'
        cases hy'
        have s27 := s26.trans s7
        obtain ⟨b, hb, hj', hbe⟩ := jobs_at (pt.same (s2.trans s27)) hi
        refine ⟨_, rfl, .ref a, rfl, .int i, rfl, a, ts, i, .ref b, rfl, rfl, sqT ((s2.trans s27) _ _ ha), atI_nat hb, b, _, 1, .int ((jobAt js i).p : Nat), rfl, rfl, sqT hbe, atI_nat (j := 1) rfl, (y : Nat), ((jobAt js i).p : Nat), rfl, rfl, _, rfl, ?_⟩
        by_cases hc : y ≤ (jobAt js i).p
        · rw [if_pos hc] at hv
          subst hv
          refine iteFq (decide_eq_false (by omega)) ⟨_, rfl, _, rfl, true, rfl, iteF ⟨_, rfl, _, rfl, .int (y : Nat), .int (y : Nat), .int _, .int _, by rfl, by rfl, _, rfl, iteFq (neD (by rw [PyData.eqv]; exact decide_eq_true rfl)) ⟨⟨well, _, _, _, _, _, _, rfl, ?_⟩, s2.trans s27⟩⟩⟩
          rw [hw]
          refine ⟨fun z m hm => ?_, fun z m hm => z m (by omega)⟩
          by_cases e : m = i
          · rw [e]; exact hyf.mp hc
          · exact z m (by omega)
        · rw [if_neg hc] at hv
          subst hv
          refine iteTq (decide_eq_true (by omega)) ⟨_, rfl, rfl, _, rfl, iteFq rfl ⟨⟨false, _, _, _, _, _, _, rfl, ?_⟩, s2.trans s27⟩⟩
          exact ⟨fun z => (nomatch z), fun z => absurd (hyf.mpr (z i (Nat.lt_succ_self i))) hc⟩
    · rintro σ H2 ⟨⟨well, c2, c3, c4, c5, c6, c7, rfl, hw⟩, s2⟩
      refine ⟨.ref a, rfl, .ref a, some (itsOf js), rfl, jb_of (hj.same s2) (by omega), chkd_good hok hl fun H3 b s3 hb => ?_⟩
      refine ⟨_, rfl, _, _, .type "bool", _, true, rfl, .ty "bool", .base (.bl b), kit_ty (by decide +kernel), _, rfl, iteTq rfl ?_⟩
      have e : b = well := Bool.eq_iff_iff.mpr (hb.trans ⟨fun z => hw.mpr z, fun z => hw.mp z⟩)
      subst e
      refine ⟨_, rfl, _, rfl, .bool b, .bool b, .bl _, .bl _, by rfl, by rfl, ?_⟩
      have e2 : PyData.eqv (.bool b) (.bool b) = true := by cases b <;> decide +kernel
      rw [e2]
      exact q H3 (s2.trans s3)
end
end K7

set_option Elab.async false
set_option linter.all false
set_option maxRecDepth 100000
set_option maxHeartbeats 4000000
namespace GX
open PySem PySem.Spec PyProof.Rows L2
section
variable {X : Cx}
/-- max(t), t a tuple of whole numbers: one of them -/
def rMaxT (K : PySem.W.Frag) : List V → Hp → VK → Prop := fun vs H Q => ∃ (a : Addr) (ns : List Int), vs = [V.ref a] ∧ SqT K H a (ns.map V.int) ∧ 0 < ns.length ∧ ∀ m, m ∈ ns → Q (.int m) H
theorem ints_read {h : Heap} : ∀ {ns : List Int} {its : List Value}, Vals (ns.map V.int) its → ∃ as, ReadsAll h its (ns.map PyData.int) as
  | [], _, .nil => ⟨_, .nil⟩
  | n :: ns, _, .cons r t => by
    obtain ⟨k, rfl⟩ := r
    obtain ⟨as, h⟩ := ints_read t
    exact ⟨_, .cons (.int n k) h⟩
theorem cr_maxT (hc : X.calm = true) (hu : X.A.units + 64 < cLine) : CallR X (.builtin "max") (rMaxT X.K) := by
  intro pins s σ H vs us Q I r h
  obtain ⟨a, ns, rfl, hs, hne, q⟩ := h
  obtain ⟨its, rv, p, hz⟩ := I.tuple hs
  rw [Vals.ref1 r]
  cases ns with
  | nil => cases hne
  | cons n ns =>
    obtain ⟨as, hr⟩ := ints_read (h := s.heap) rv
    refine PySem.W.max_tuple_data (x := .int n) (xs := ns.map PyData.int) (I.ok.hd hc) (show s.heap.IsTuple a its.toArray from p) hr ⟨fun x hx y hy => ?_, fun x hx => ?_⟩ ?_ fun i v h' tk bs hv _ hk => ?_
    · have hx : x ∈ (n :: ns).map PyData.int := hx
      have hy : y ∈ (n :: ns).map PyData.int := hy
      obtain ⟨a1, _, rfl⟩ := List.mem_map.mp hx
      obtain ⟨a2, _, rfl⟩ := List.mem_map.mp hy
      rfl
    · have hx : x ∈ (n :: ns).map PyData.int := hx
      obtain ⟨a1, _, rfl⟩ := List.mem_map.mp hx
      exact fun z => nomatch z
    · have e : ∀ l : List Int, PyData.depthAll (l.map PyData.int) = 0 := fun l => by
        induction l with
        | nil => rfl
        | cons i r ih => show max 0 (PyData.depthAll (r.map PyData.int)) = 0; rw [ih]; rfl
      have e1 : PyData.depthAll (PyData.int n :: ns.map PyData.int) = 0 := e (n :: ns)
      rw [e1]
      omega
    · have hv' : its[i]? = some v := by simpa using hv
      obtain ⟨m, hm, hr⟩ : ∃ m, (n :: ns)[i]? = some m ∧ RelV (.int m) v := by
        have hl := rv.length
        rw [List.length_map] at hl
        have hi : i < (n :: ns).length := by rw [hl]; exact (List.getElem?_eq_some_iff.mp hv').1
        obtain ⟨u, h1, h2⟩ := rv.get (i := i) (x := .int (n :: ns)[i]) (by rw [List.getElem?_map, List.getElem?_eq_getElem hi]; rfl)
        rw [hv'] at h1
        cases h1
        exact ⟨_, List.getElem?_eq_getElem hi, h2⟩
      exact ⟨.int m, H, I.kept hk, hr, q m (List.mem_of_getElem? hm)⟩
end
end GX

set_option Elab.async false
set_option linter.all false
set_option maxRecDepth 100000
set_option maxHeartbeats 4000000
namespace K7
open PySem PySem.Spec PyProof.Rows L2 GX NdefX
/-! ### _law_drawn_fits -/
def pdM : Option (Nat × Nat) → PyData
  | none => .none
  | some (i, t) => .tuple [.int (i : Nat), .int (t : Nat)]
theorem dpM {K : PySem.W.Frag} {H : Hp} {x : V} {r : Option (Nat × Nat)} (h : MisV H x r) : Dp K H x (pdM r) := by
  cases r with
  | none => obtain rfl : x = .non := h; exact .non
  | some r =>
    obtain ⟨T, rfl, hT⟩ := h
    exact dpI (ks := [(r.1 : Nat), (r.2 : Nat)]) hT
theorem shM (r : Option (Nat × Nat)) : SeqAt.shaped (pdM r) = true := by
  cases r with
  | none => decide +kernel
  | some r => exact shI [(r.1 : Nat), (r.2 : Nat)]
theorem eqM (r : Option (Nat × Nat)) : PyData.eqv (pdM r) (pdM r) = true := by
  cases r with
  | none => decide +kernel
  | some r => exact eqIr [(r.1 : Nat), (r.2 : Nat)]
theorem IsEnds.len {js : List Job} {pl many : Nat} {r : List Int} (h : IsEnds js pl many r) (n : IsFM js none) : r.length = many := by
  obtain ⟨T, h1, h2, h3, rfl⟩ := h
  have ge : many ≤ (ends js pl T).length := by
    rcases h3 with h3 | h3
    · exact h3
    · exact absurd (n T) h3
  cases T with
  | zero => exact Nat.le_antisymm (Nat.zero_le _) ge
  | succ T =>
    have := ends_len1 js pl T
    have := h2 T (Nat.lt_succ_self T)
    omega
theorem rp_sum {js js' : List Job} (h : SameRP js js') : (js.map (·.r)).sum = (js'.map (·.r)).sum := by
  have e : ∀ l : List Job, l.map (·.r) = (l.map rp).map Prod.fst := fun l => by rw [List.map_map]; rfl
  rw [e, e, show js.map rp = js'.map rp from h]
theorem atO_dvd {c0 : Nat} : ∀ {js : List Job} {os : List Nat}, (∀ j ∈ js, j.p ∣ c0) → ∀ j ∈ atO js os, j.p ∣ c0
  | [], os, _, j, hj => by unfold atO at hj; rw [List.zipWith_nil_left] at hj; cases hj
  | j0 :: js, [], _, j, hj => by cases hj
  | j0 :: js, o :: os, h, j, hj => by
    have hj : j ∈ (⟨j0.r, j0.p, o⟩ : Job) :: atO js os := hj
    rcases List.mem_cons.mp hj with e | hj
    · rw [e]; exact h j0 List.mem_cons_self
    · exact atO_dvd (fun k hk => h k (List.mem_cons_of_mem _ hk)) j hj
/-- an end of any time is at most the longest that was seen -/
theorem seen_le {js : List Job} {c k i : Nat} {j : Job} (per : Per js c) (e0 : lefts js (c * k) = lefts js (c * (k + 1))) (nm : IsFM js none) (hj : js[i]? = some j) (ok : JOk j) {T : Nat} {m : Int} (hm : m ∈ ends js i T) : m ≤ maxE (ends js i (c * (k + 2))) := by
  have nT : ∀ T, NoM js T := fun T t _ => nm t
  obtain ⟨a, e, h1, h2, rfl⟩ := ends_end hj ok (nT T) m hm
  obtain ⟨a', e', k1, k2, k3⟩ := all_seen per e0 nm hj ok e a e (Nat.le_refl _) h1
  have := maxE_ge (end_ends hj ok (nT _) k1 k2)
  omega
def spDrawn : Sp := fun vs H Q _ => ∃ (a b : Addr) (js : List Job) (os : List Nat) (c0 : Nat), vs = [.ref a, .ref b] ∧ JobsT H a js ∧ H b = some (.tup (nts os)) ∧ Paired (fun o (j : Job) => o < j.p) os js ∧ (∀ j ∈ js, JOk j) ∧ js.length ≤ 3 ∧ 1 ≤ c0 ∧ c0 ≤ 30 ∧ (∀ j ∈ js, j.p ∣ c0) ∧ c0 * ((js.map (·.r)).sum + 2) < 400 ∧ ∀ H', Same H H' → Q (.bl true) H'
section
variable {P : Program} {w : World} {K : PySem.W.Frag} {mg : Str → Option Value} {base : Heap}
theorem ok_drawn {k : Nat} (D : Pr P K mg) : FnOk P w K mg base (CX P w) (k + 5) D._law_drawn_fits.f D._law_drawn_fits.fd ["jobs", "asked"] spDrawn := by
  have G__law_at : FnOk P w K mg base CX0 (k + 1) D._law_at.f D._law_at.fd ["jobs", "offsets"] spAt := ok_at D
  have G__law_times : FnOk P w K mg base CX0 (k + 2) D._law_times.f D._law_times.fd ["jobs"] spTimes := ok_times D
  have G_first_miss : FnOk P w K mg base (CX P w) (k + 4) D.first_miss.f D.first_miss.fd ["jobs"] (spFirst D.BadNumber.C D.TooMany.C) := ok_first D
  have G_job_ends : FnOk P w K mg base (CX P w) (k + 4) D.job_ends.f D.job_ends.fd ["jobs", "place", "many"] (spEnds D.BadNumber.C D.TooMany.C) := ok_ends D
  refine D._law_drawn_fits.F.okX sc__law_drawn_fits (fun vs H Q E h => ?_) (fun cdv A outer s H vs Q E hr h => ?_)
  · obtain ⟨a, b, js, os, c0, rfl, _⟩ := h
    rfl
  · obtain ⟨a, b, js, os, c0, rfl, hj, hb, hf, hok, hl, c1, c30, cd, cb, q⟩ := h
    have lo := hf.length
    refine ⟨_, (pss_cons (ps_set (i := 2) sc__law_drawn_fits.nd rfl (.inl rfl) (pe_call G__law_at (hr.mono (by omega)) (by rfl) D._law_at.g D._law_at.F.kp D._law_at.b .nil pass0 (pa_cons (pv 0) (pa_cons (pv 1) pa_nil))))
      (pss_cons (ps_set (i := 3) sc__law_drawn_fits.nd rfl (.inl rfl) (pe_call G__law_times (hr.mono (by omega)) (by rfl) D._law_times.g D._law_times.F.kp D._law_times.b .nil pass0 (pa_cons (pv 2) pa_nil)))
      (pss_cons (ps_if (pt_cmpR (op_neD hr.units) (pe_call G_first_miss hr (by rfl) D.first_miss.g D.first_miss.F.kp D.first_miss.b .nil (passes_call (takes_of rfl rfl rfl rfl) (fun _ _ _ _ h => h)) (pa_cons (pv 2) pa_nil)) (pe_ix (r := rIxL K) ix_list (pv 3) pe_int (fun _ _ => rfl)) (nomark _)) (pss_one (ps_ret pe_bl)) pss_nil)
      (pss_cons (ps_if (pt_cmpR op_notN (pe_ix (r := rIxL K) ix_list (pv 3) pe_int (fun _ _ => rfl)) pe_non (nomark _)) (pss_one (ps_ret pe_bl)) pss_nil)
      (pss_cons (ps_for (by passes_own) rfl (pi_range1 (by rfl) D.B.range (pa_cons (pe_callB call_len (by rfl) D.B.len PySem.boot_len (pa_cons (pv 0) pa_nil)) pa_nil)) (pg_name (i := 4) sc__law_drawn_fits.nd rfl (.inl rfl)) (pss_cons (ps_set (i := 5) sc__law_drawn_fits.nd rfl (.inl rfl) (pe_call G_job_ends hr (by rfl) D.job_ends.g D.job_ends.F.kp D.job_ends.b .nil (passes_call (takes_of rfl rfl rfl rfl) (fun _ _ _ _ h => h)) (pa_cons (pv 2) (pa_cons (pv 4) (pa_cons pe_int pa_nil))))) (pss_one (ps_if (PW.pt (pw_or (pt_not (pt_val (pe_callB call_isi (by rfl) D.B.isinstance (by decide +kernel) (pa_cons (pv 5) (pa_cons (pe_bltn (v := .ty "tuple") (u := .type "tuple") (by rfl) D.B.tuple (by decide +kernel) rfl) pa_nil))))) (pw_or (pt_cmpR op_ne (pe_callB call_len (by rfl) D.B.len PySem.boot_len (pa_cons (pv 5) pa_nil)) pe_int (nomark _)) (pw_or1 (pt_cmpR op_gt (pe_callB (r := rMaxT K) (cr_maxT rfl hr.units) (by rfl) D.B.max (by decide +kernel) (pa_cons (pv 5) pa_nil)) (pe_ix (r := rIxL K) ix_list (pe_ix (r := rIxL K) ix_list (pv 3) pe_int (fun _ _ => rfl)) (pv 4) (fun _ _ => rfl)) (nomark _)))))) (pss_one (ps_ret pe_bl)) pss_nil))))
      (pss_one (ps_ret pe_bl))))))), ?_⟩
    refine ⟨.ref a, rfl, .ref b, rfl, a, b, js, os, rfl, hj, hb, lo, by omega, fun T H1 s1 jt => ?_⟩
    have ok' := atO_ok hok hf
    have l' := atO_len lo
    have cb' : c0 * (((atO js os).map (·.r)).sum + 2) < 400 := by rw [rp_sum (atO_rp lo)]; exact cb
    have cd' := atO_dvd (os := os) cd
    generalize atO js os = sh at jt ok' l' cb' cd'
    refine ⟨.ref T, rfl, T, sh, c0, rfl, jt, ok', by omega, c1, c30, cd', cb', fun Dl Lg H2 mv r lg s2 nD eD nG eG lgl hm hfm hn => ?_⟩
    have jt2 := jt.same s2
    refine ⟨.ref T, rfl, .ref T, some (itsOf sh), rfl, jb_of jt2 (by omega), chkd_good ok' (by omega) fun mv2 H3 r2 s3 hm2 hfm2 => ?_⟩
    obtain rfl := IsFM.uniq hfm hfm2
    have eD3 := s3 _ _ eD
    have hm3 := hm.same s3
    refine ⟨_, rfl, Dl, _, 0, _, rfl, rfl, sqL eD3, atI_nat (j := 0) rfl, _, _, dpM hm2, dpM hm3, shM _, shM _, _, rfl, iteFq (neD (eqM _)) ?_⟩
    refine ⟨_, rfl, Dl, _, 0, _, rfl, rfl, sqL eD3, atI_nat (j := 0) rfl, rfl, _, rfl, ?_⟩
    have s13 := s1.trans (s2.trans s3)
    cases r with
    | some r =>
      obtain ⟨U, rfl, _⟩ := hm3
      exact iteTq rfl (q H3 s13)
    | none =>
      obtain rfl : mv = .non := hm3
      obtain ⟨c, k0, per, e0, rfl⟩ := hn rfl
      refine iteFq rfl ?_
      obtain ⟨ts, ha, pt⟩ := hj.same s13
      refine ⟨.ref a, rfl, .ref a, js.length, rfl, .inr ⟨_, sqT ha, (jt_len pt).symm⟩, (js.length : Nat), rfl, by omega, by omega, ?_⟩
      refine forRg (D := { nx := _, rt := Q }) (n := js.length) (fun i σ H' => (∃ c4 c5, σ = [some (.ref a), some (.ref b), some (.ref T), some (.ref Dl), c4, c5]) ∧ Same H3 H') ⟨⟨_, _, rfl⟩, Same.refl _⟩ ?_ ?_
      · rintro i σ H4 hi ⟨⟨c4, c5, rfl⟩, s4⟩
        have jt4 := jt2.same (s3.trans s4)
        obtain ⟨j, hji⟩ : ∃ j, sh[i]? = some j := ⟨_, List.getElem?_eq_getElem (by omega)⟩
        have jk := ok' j (List.mem_of_getElem? hji)
        refine ⟨.ref T, rfl, .int i, rfl, .ref T, some (itsOf sh), (i : Nat), 3, rfl, jb_of jt4 (by omega), chkd_good ok' (by omega) ?_⟩
        rw [if_pos (by omega), if_pos (by decide)]
        refine fun U H5 re s5 eU ie => ?_
        rw [Int.toNat_natCast] at ie
        have ie : IsEnds sh i 3 re := ie
        have hlen := ie.len hfm
        refine ⟨_, rfl, _, _, .type "tuple", _, true, rfl, .ty "tuple", .base (.tup eU), kit_ty (by decide +kernel), true, rfl, iteF ?_⟩
        refine ⟨.ref U, rfl, .ref U, 3, rfl, .inr ⟨_, sqT eU, by unfold vInts; rw [List.length_map]; exact hlen.symm⟩, rfl, _, rfl, iteFq (by rfl) ?_⟩
        have eD5 := s5 _ _ (s4 _ _ eD3)
        have eG5 := s5 _ _ (s4 _ _ (s3 _ _ eG))
        refine ⟨.ref U, rfl, U, re, rfl, sqT eU, by omega, fun m hmem => ?_⟩
        refine ⟨_, rfl, Dl, _, 1, _, rfl, rfl, sqL eD5, atI_nat (j := 1) rfl, _, rfl, Lg, _, i, _, rfl, rfl, sqL eG5, atI_nat (nts_at (longs_get (by omega))), m, _, rfl, rfl, _, rfl, iteFq (decide_eq_false ?_) ⟨⟨_, _, rfl⟩, s4.trans s5⟩⟩
        obtain ⟨T0, _, _, _, rfl⟩ := ie
        have := seen_le per e0 hfm hji jk hmem
        omega
      · rintro σ H4 ⟨_, s4⟩
        exact q H4 (s13.trans s4)
end
end K7

set_option Elab.async false
set_option linter.all false
set_option maxRecDepth 100000
set_option maxHeartbeats 4000000
namespace K7
open PySem PySem.Spec PyProof.Rows L2 GX NdefX
/-- [e for x in xs], xs a tuple, where e changes what stands -/
theorem lcTupM {K : PySem.W.Frag} {a : Addr} {xs : List V} {g : TG} {te : TE} {vs : List Nat} {σ : L2.St} {H1 : Hp} {Q : Addr → Hp → Prop} (Iv : Addr → Nat → List V → Hp → Prop) (hn : xs.length ≤ 4000)
    (h0 : ∀ D, H1 D = none → Iv D 0 [] (upd H1 D (.lst []))) (hD : ∀ D i us H, Iv D i us H → H D = some (.lst us) ∧ us.length = i ∧ H a = some (.tup xs))
    (turn : ∀ (D : Addr) (i : Nat) (x : V) (us : List V) (H : Hp) (Qk : VK) (Qn : Hp → Prop), xs[i]? = some x → H1 D = none → Iv D i us H → (∀ y H4, H4 D = some (.lst us) → Iv D (i + 1) (us ++ [y]) (upd H4 D (.lst (us ++ [y]))) → Qk y H4) →
      g x (wipe σ vs) H fun σ2 H2 => wipe σ2 vs = wipe σ vs ∧ tYes σ2 H2 fun b H3 => if b = true then te σ2 H3 Qk else Qn H3)
    (done : ∀ D us H, H1 D = none → Iv D xs.length us H → Q D H) : LcD (Itt K a) g tYes te vs σ H1 Q := by
  refine fun D nD => ⟨fun i m H => m = xs.length - i ∧ i ≤ xs.length ∧ ∃ us, Iv D i us H, ⟨xs.length, rfl, Nat.zero_le _, [], h0 D nD⟩, ?_⟩
  rintro i m H ⟨rfl, hi, us, iv⟩
  obtain ⟨eD, hl, ea⟩ := hD D i us H iv
  by_cases hlt : i < xs.length
  · refine .inr ⟨⟨xs, xs[i], sqT ea, List.getElem?_eq_getElem hlt⟩, fun H' => ∃ us, Iv D (i + 1) us H', fun H' p => ⟨xs.length - (i + 1), by omega, rfl, hlt, p⟩, fun x H' y => ?_⟩
    obtain ⟨rfl, y⟩ := y
    exact turn D i x us _ _ _ (y xs (sqT ea)) nD iv fun y H4 e4 iv4 => ⟨us, e4, by rw [hl, sizeLine_eq]; omega, _, iv4⟩
  · obtain rfl : i = xs.length := by omega
    exact .inl ⟨⟨xs, sqT ea, Nat.le_refl _⟩, done D us H nD iv⟩
/-- with periods all 24 a row is a sum -/
theorem load24 {l : List Job} (h : ∀ j ∈ l, j.p = 24) {t : Nat} (h1 : 1 ≤ t) (h2 : t ≤ 24) : load l t = (l.map (·.r)).sum := by
  unfold load
  refine congrArg List.sum (List.map_congr_left fun j hj => ?_)
  rw [h j hj, up_one h1 h2, Nat.mul_one]
theorem wk24 {js : List Job} (h : ∀ j ∈ js, j.p = 24) {i : Nat} (hi : i < js.length) {t : Nat} (h1 : 1 ≤ t) (h2 : t ≤ 24) : wk js i t = ((js.take (i + 1)).map (·.r)).sum := by
  unfold wk
  rw [jobAt_get (List.getElem?_eq_getElem hi), load24 (fun j hj => h j (List.mem_of_mem_take hj)) h1 h2, List.take_add_one, List.getElem?_eq_getElem hi, List.map_append, List.sum_append]
  simp
  omega
theorem take_sum (js : List Job) : ∀ i, ((js.take i).map (·.r)).sum ≤ (js.map (·.r)).sum := fun i => by
  have e : js.map (·.r) = (js.take i).map (·.r) ++ (js.drop i).map (·.r) := by rw [← List.map_append, List.take_append_drop]
  rw [e, List.sum_append]
  omega
/-- five jobs of one period fit if their rungs do -/
theorem all24 {js : List Job} (ok : ∀ j ∈ js, JOk j) (h : ∀ j ∈ js, j.p = 24) (hl : 1 ≤ js.length) : AllF js ↔ (js.map (·.r)).sum ≤ 24 := by
  constructor
  · intro f
    obtain ⟨t, h1, h2, h3⟩ := f (js.length - 1) (by omega)
    have hi : js.length - 1 < js.length := by omega
    rw [jobAt_get (List.getElem?_eq_getElem hi), h _ (List.getElem_mem hi)] at h2
    rw [wk24 h hi h1 h2, show js.length - 1 + 1 = js.length by omega, List.take_length] at h3
    omega
  · intro s i hi
    have hj := List.getElem?_eq_getElem hi
    have r1 := (ok _ (List.getElem_mem hi)).r1
    have e : ((js.take (i + 1)).map (·.r)).sum = ((js.take i).map (·.r)).sum + js[i].r := by
      rw [List.take_add_one, hj, List.map_append, List.sum_append]
      simp
    have le := take_sum js (i + 1)
    refine ⟨((js.take (i + 1)).map (·.r)).sum, by omega, ?_, ?_⟩
    · rw [jobAt_get hj, h _ (List.getElem_mem hi)]; omega
    · rw [wk24 h hi (by omega) (by omega)]
      exact Nat.le_refl _
/-- the jobs that the law draws -/
def MainOk (js : List Job) : Prop := (js.length = 2 ∧ ∀ j ∈ js, j.p ≤ 6 ∧ j.r ≤ 3) ∨ (js.length = 3 ∧ ∀ j ∈ js, j.p ≤ 4 ∧ j.r ≤ 3)
theorem lcm6 : ∀ p, p < 7 → ∀ q, q < 7 → Nat.lcm p q ≤ 30 := by decide
theorem dvd12 : ∀ p, p < 5 → 1 ≤ p → 12 % p = 0 := by decide
theorem sum_le3 {js : List Job} (h : ∀ j ∈ js, j.r ≤ 3) : (js.map (·.r)).sum ≤ 3 * js.length := by
  induction js with
  | nil => exact Nat.le_refl _
  | cons j js ih =>
    have a := ih fun k hk => h k (List.mem_cons_of_mem _ hk)
    have b := h j List.mem_cons_self
    rw [List.map_cons, List.sum_cons, List.length_cons, Nat.mul_succ]
    omega
theorem com_main {js : List Job} (ok : ∀ j ∈ js, JOk j) (h : MainOk js) : ∃ c0, 1 ≤ c0 ∧ c0 ≤ 30 ∧ (∀ j ∈ js, j.p ∣ c0) ∧ c0 * ((js.map (·.r)).sum + 2) < 400 := by
  rcases h with ⟨hl, h⟩ | ⟨hl, h⟩
  · match js, hl with
    | [j, k], _ =>
      have hj := h j (by simp)
      have hk := h k (by simp)
      have oj := ok j (by simp)
      have ok' := ok k (by simp)
      have l30 := lcm6 j.p (by omega) k.p (by omega)
      refine ⟨Nat.lcm j.p k.p, Nat.lcm_pos oj.p1 ok'.p1, l30, fun x hx => ?_, ?_⟩
      · simp only [List.mem_cons, List.not_mem_nil, or_false] at hx
        rcases hx with rfl | rfl
        · exact Nat.dvd_lcm_left _ _
        · exact Nat.dvd_lcm_right _ _
      · have s := sum_le3 fun x hx => (h x hx).2
        have : Nat.lcm j.p k.p * (([j, k].map (·.r)).sum + 2) ≤ 30 * 8 := Nat.mul_le_mul l30 (by simp at s ⊢; omega)
        omega
  · refine ⟨12, by decide, by decide, fun j hj => Nat.dvd_of_mod_eq_zero (dvd12 j.p (by have := (h j hj).1; omega) (ok j hj).p1), ?_⟩
    have s := sum_le3 fun x hx => (h x hx).2
    rw [hl] at s
    omega
end K7

set_option Elab.async false
set_option linter.all false
set_option maxRecDepth 100000
set_option maxHeartbeats 4000000
namespace K7
open PySem PySem.Spec PyProof.Rows L2 GX NdefX
/-! ### law -/
theorem first_end {js : List Job} (ok : ∀ j ∈ js, JOk j) (hz : AtZero js) (nm : IsFM js none) {i : Nat} {j : Job} (hj : js[i]? = some j) {y : Nat} (hy : (rowL js i).getLast? = some y) : IsEnds js i 1 [((y : Nat) : Int)] := by
  have nT : ∀ T, NoM js T := fun T t _ => nm t
  have jk := ok j (List.mem_of_getElem? hj)
  have jo := hz j (List.mem_of_getElem? hj)
  have hi := (List.getElem?_eq_some_iff.mp hj).1
  obtain ⟨y1, y2, y3, y4, y5⟩ := last_sync ok hz hj (nT _) hy
  have c0 : comes j 0 = true := by unfold comes; rw [beq_iff_eq, Nat.zero_mod, jo]
  have l0 : (lefts js 0)[i]? = some 0 := by show (List.replicate js.length 0)[i]? = some 0; rw [List.getElem?_replicate, if_pos hi]
  have em : ∀ u, u < y → ends js i u = [] := fun u hu => by
    refine List.eq_nil_iff_forall_not_mem.mpr fun x hx => ?_
    obtain ⟨a, e, h1, h2, _⟩ := ends_end hj jk (nT u) x hx
    have := h1.lt
    exact y5 e (by omega) (by omega) h1.ze
  have mem := end_ends hj jk (nT y) (a := 0) (e := y) ⟨c0, y1, l0, y4, fun u h1 h2 => y5 u h1 h2⟩ (Nat.le_refl _)
  have len : (ends js i y).length ≤ 1 := by
    obtain ⟨m, rfl⟩ : ∃ m, y = m + 1 := ⟨y - 1, by omega⟩
    have := ends_len1 js i m
    rw [em m (by omega)] at this
    exact this
  have e : ends js i y = [((y : Nat) : Int)] := by
    match he : ends js i y, mem, len with
    | [], mem, _ => cases mem
    | [x], mem, _ =>
      have := List.mem_singleton.mp mem
      rw [← this]
      rfl
    | _ :: _ :: _, _, len => rw [List.length_cons, List.length_cons] at len; omega
  exact ⟨y, nT y, fun t ht => by rw [em t ht]; exact Nat.zero_lt_one, .inl (by rw [e]; exact Nat.le_refl _), e.symm⟩
section
variable {P : Program} {w : World} {K : PySem.W.Frag} {mg : Str → Option Value} {base : Heap}
theorem law_end {k : Nat} (D : Pr P K mg) (f : Addr) (cdv : Value) (A : Around) (outer : List Env) (s : Shared) (H0 : Hp) (Q : VK) (E : XK) (hr : Room (k + 6) (A.deeper (envOfC "law" (defScope s_law) s.heap.objs.size f cdv))) :
    ∃ t, PSs (cxOf (CX P w) P w K mg base n_law "law" (defScope s_law) f cdv A outer s H0 E) ((defBody s_law).drop 12) t ∧ ∀ (c0 c1 c2 c3 c6 c7 c9 c12 c13 : Option V) (a B Lg : Addr) (js : List Job) (os lg : List Nat) (missed : Bool) (H : Hp), JobsT H a js → (∀ j ∈ js, JOk j) → MainOk js → AtZero js → H B = some (.tup (nts os)) → Paired (fun o (j : Job) => o < j.p) os js →
      (missed = true ↔ ¬ AllF js) → H Lg = some (.lst (nts lg)) → (AllF js → ∀ (i y : Nat), i < js.length → (rowL js i).getLast? = some y → lg[i]? = some y) → (∀ H', Q (.bl true) H') →
      t { nx := fun _ H' => Q V.non H', rt := Q } [c0, c1, c2, c3, some (.ref a), some (.int (js.length : Nat)), c6, c7, some (.ref B), c9, some (.bl missed), some (.ref Lg), c12, c13] H := by
  have G_never_misses : FnOk P w K mg base (CX P w) (k + 4) D.never_misses.f D.never_misses.fd ["jobs"] (spNever D.BadNumber.C D.TooMany.C) := ok_never D
  have G_response : FnOk P w K mg base (CX P w) (k + 4) D.response.f D.response.fd ["jobs", "place"] (spResp D.BadNumber.C D.TooMany.C) := ok_response D
  have G_job_ends : FnOk P w K mg base (CX P w) (k + 4) D.job_ends.f D.job_ends.fd ["jobs", "place", "many"] (spEnds D.BadNumber.C D.TooMany.C) := ok_ends D
  have G__law_drawn_fits : FnOk P w K mg base (CX P w) (k + 5) D._law_drawn_fits.f D._law_drawn_fits.fd ["jobs", "asked"] spDrawn := ok_drawn D
  refine ⟨_, (pss_cons (ps_if (pt_cmpR op_eq (pe_call G_never_misses (hr.mono (by omega)) (by rfl) D.never_misses.g D.never_misses.F.kp D.never_misses.b .nil (passes_call (takes_of rfl rfl rfl rfl) (fun _ _ _ _ h => h)) (pa_cons (pv 4) pa_nil)) (pv 10) (nomark _)) (pss_one (ps_ret pe_bl)) pss_nil)
      (pss_cons (ps_if (pt_not (pt_val (pv 10))) (pss_one (ps_for (by passes_own) rfl (pi_range1 (by rfl) D.B.range (pa_cons (pv 5) pa_nil)) (pg_name (i := 6) sc_law.nd rfl (.inl rfl)) (pss_one (ps_if (PW.pt (pw_or (pt_cmpR (op_neD hr.units) (pe_call G_response (hr.mono (by omega)) (by rfl) D.response.g D.response.F.kp D.response.b .nil (passes_call (takes_of rfl rfl rfl rfl) (fun _ _ _ _ h => h)) (pa_cons (pv 4) (pa_cons (pv 6) pa_nil))) (pe_ix (r := rIxL K) ix_list (pv 11) (pv 6) (fun _ _ => rfl)) (nomark _)) (pw_or1 (pt_cmpR (op_neD hr.units) (pe_call G_job_ends (hr.mono (by omega)) (by rfl) D.job_ends.g D.job_ends.F.kp D.job_ends.b .nil (passes_call (takes_of rfl rfl rfl rfl) (fun _ _ _ _ h => h)) (pa_cons (pv 4) (pa_cons (pv 6) (pa_cons pe_int pa_nil)))) (pe_tup (pa_cons (pe_ix (r := rIxL K) ix_list (pv 11) (pv 6) (fun _ _ => rfl)) pa_nil)) (nomark _))))) (pss_one (ps_ret pe_bl)) pss_nil)))) pss_nil)
      (pss_one (ps_ret (pe_call G__law_drawn_fits (hr.mono (by omega)) (by rfl) D._law_drawn_fits.g D._law_drawn_fits.F.kp D._law_drawn_fits.b .nil (passes_call (takes_of rfl rfl rfl rfl) (fun _ _ _ _ h => h)) (pa_cons (pv 4) (pa_cons (pv 8) pa_nil))))))), ?_⟩
  intro c0 c1 c2 c3 c6 c7 c9 c12 c13 a B Lg js os lg missed H jt hok hmain hz hB hfit hmiss hLg hlg q
  have hl3 : js.length ≤ 3 := by rcases hmain with ⟨h, _⟩ | ⟨h, _⟩ <;> omega
  obtain ⟨c0', d1, d2, d3, d4⟩ := com_main hok hmain
  refine ⟨.ref a, rfl, .ref a, some (itsOf js), rfl, jb_of jt (by omega), chkd_good hok (by omega) fun H1 b s1 hb => ⟨_, rfl, rfl, _, rfl, iteFq (decide_eq_false fun z => ?_) ?_⟩⟩
  · injection z with z
    by_cases h : AllF js
    · have := hb.mpr h
      rw [z] at this
      exact (hmiss.mp this) h
    · have := hmiss.mpr h
      rw [← z] at this
      exact h (hb.mp this)
  have fin : ∀ H2, Same H1 H2 → JobsT H2 a js ∧ H2 B = some (.tup (nts os)) := fun H2 s2 => ⟨jt.same (s1.trans s2), (s1.trans s2) _ _ hB⟩
  refine ⟨_, rfl, missed, rfl, ?_⟩
  cases missed with
  | true =>
    refine iteF ?_
    exact ⟨.ref a, rfl, .ref B, rfl, a, B, js, os, c0', rfl, jt.same s1, s1 _ _ hB, hfit, hok, hl3, d1, d2, d3, d4, fun H' _ => q H'⟩
  | false =>
    refine iteT ?_
    have hall : AllF js := Classical.byContradiction fun z => by have := hmiss.mpr z; cases this
    have nm : IsFM js none := fun t => no_miss hok hall (t + 1) t (Nat.lt_succ_self t)
    refine ⟨_, rfl, (js.length : Nat), rfl, by omega, by omega, ?_⟩
    refine forRg (D := { nx := _, rt := Q }) (n := js.length) (fun i σ H' => (∃ c6, σ = [c0, c1, c2, c3, some (.ref a), some (.int (js.length : Nat)), c6, c7, some (.ref B), c9, some (.bl false), some (.ref Lg), c12, c13]) ∧ Same H1 H') ⟨⟨_, rfl⟩, Same.refl _⟩ ?_ ?_
    · rintro i σ H2 hi ⟨⟨c6, rfl⟩, s2⟩
      have jt2 := (fin H2 s2).1
      have hji := List.getElem?_eq_getElem hi
      have jk := hok _ (List.mem_of_getElem? hji)
      refine ⟨.ref a, rfl, .int i, rfl, .ref a, some (itsOf js), (i : Nat), rfl, jb_of jt2 (by omega), chkd_good hok (by omega) ?_⟩
      rw [if_pos (by omega), Int.toNat_natCast]
      rintro v H3 s3 ⟨y, hy, hv⟩
      obtain ⟨y', hy', hyf⟩ := rowL_last (js := js) (i := i) (by rw [jobAt_get hji]; exact jk)
      rw [hy] at hy'
      cases hy'
      rw [if_pos (hyf.mpr (hall i hi))] at hv
      subst hv
      have hly := hlg hall i y hi hy
      have eL3 := s3 _ _ (s2 _ _ (s1 _ _ hLg))
      refine ⟨_, rfl, _, rfl, Lg, _, i, _, rfl, rfl, sqL eL3, atI_nat (nts_at hly), .int (y : Nat), .int (y : Nat), .int _, .int _, by rfl, by rfl, _, rfl, iteFq (neD (by rw [PyData.eqv]; exact decide_eq_true rfl)) ?_⟩
      have jt3 := jt2.same s3
      refine ⟨.ref a, rfl, .int i, rfl, .ref a, some (itsOf js), (i : Nat), 1, rfl, jb_of jt3 (by omega), chkd_good hok (by omega) ?_⟩
      rw [if_pos (by omega), if_pos (by decide), Int.toNat_natCast]
      refine fun T H4 re s4 eT ie => ?_
      have ie : IsEnds js i 1 re := ie
      obtain rfl := IsEnds.uniq ie (first_end hok hz nm hji hy)
      have eL4 := s4 _ _ eL3
      refine ⟨_, rfl, _, rfl, Lg, _, i, _, rfl, rfl, sqL eL4, atI_nat (nts_at hly), by show 1 ≤ sizeLine; decide, fun W nW => ?_⟩
      have sW := same_upd nW (o := .tup [.int (y : Nat)])
      exact ⟨_, _, dpI (ks := [((y : Nat) : Int)]) (sW _ _ eT), dpI (ks := [((y : Nat) : Int)]) upd_same, shI _, shI _, _, rfl, iteFq (neD (eqIr _)) ⟨⟨_, rfl⟩, s2.trans (s3.trans (s4.trans sW))⟩⟩
    · rintro σ H2 ⟨⟨c6, rfl⟩, s2⟩
      exact ⟨.ref a, rfl, .ref B, rfl, a, B, js, os, c0', rfl, (fin H2 s2).1, (fin H2 s2).2, hfit, hok, hl3, d1, d2, d3, d4, fun H' _ => q H'⟩
end
end K7

set_option Elab.async false
set_option linter.all false
set_option maxRecDepth 100000
set_option maxHeartbeats 4000000
namespace K7
open PySem PySem.Spec PyProof.Rows L2 GX NdefX
/-! ### law: what the loop over all offsets keeps -/
theorem TupsT.bl {L : Addr} {H H' : Hp} {xs : List V} {ts : List V} {ls : List (List V)} (p : TupsT H ts ls) (s : SameB L H H') (hL : H L = some (.lst xs)) : TupsT H' ts ls :=
  paired_imp (fun x c ⟨b, e, hb⟩ => ⟨b, e, tup_b s hL hb⟩) p
def JobsL (H : Hp) (D : Addr) (js : List Job) : Prop := ∃ ts, H D = some (.lst ts) ∧ TupsT H ts (js.map jv)
theorem JobsL.b {a : Addr} {H H' : Hp} {D : Addr} {js : List Job} (n : NumsAt H a) (hd : D ≠ a) (s : SameB a H H') (h : JobsL H D js) : JobsL H' D js := by
  obtain ⟨ts, e, p⟩ := h
  exact ⟨ts, s _ _ hd e, tupsB n s p⟩
theorem JobsL.same {H H' : Hp} {D : Addr} {js : List Job} (s : Same H H') (h : JobsL H D js) : JobsL H' D js := by
  obtain ⟨ts, e, p⟩ := h
  exact ⟨ts, s _ _ e, p.same s⟩
theorem JobsL.app {H : Hp} {D T : Addr} {ts : List V} {js : List Job} {j : Job} (e : H D = some (.lst ts)) (p : TupsT H ts (js.map jv)) (h : H T = some (.tup (jv j))) : JobsL (upd H D (.lst (ts ++ [.ref T]))) D (js ++ [j]) := by
  refine ⟨ts ++ [.ref T], upd_same, ?_⟩
  rw [List.map_append]
  exact paired_app (tups_upd e p) (.cons (tup_upd e ⟨T, rfl, h⟩) .nil)
theorem max_ends_le {sh : List Job} (ok : ∀ j ∈ sh, JOk j) (nm : IsFM sh none) {i : Nat} (hi : i < sh.length) {y : Nat} (hy : (rowL sh i).getLast? = some y) (hf : Feas sh i) (T : Nat) : maxE (ends sh i T) ≤ y := by
  have hj := List.getElem?_eq_getElem hi
  have jk := ok _ (List.mem_of_getElem? hj)
  have ej := jobAt_get hj
  obtain ⟨y', hy', y1, ymin, yfix⟩ := rowL_least (js := sh) (i := i) (by rw [ej]; exact jk)
  rw [hy] at hy'
  cases hy'
  obtain ⟨t, t1, t2, t3⟩ := hf
  have yp : y ≤ (jobAt sh i).p := Nat.le_trans (ymin t t1 t3) t2
  refine maxE_le fun x hx => ?_
  obtain ⟨a, e, h1, _, h3⟩ := ends_end hj jk (fun u _ => nm u) x hx
  have := end_le ok hj h1 y1 (by rw [← ej]; exact yp) (Nat.le_of_eq (yfix yp))
  omega
structure OInv (js : List Job) (m : Nat) (ms : Bool) (lg : List Nat) : Prop where
  len : lg.length = js.length
  mis : ms = true ↔ ∃ os ∈ (allO js).take m, ¬ IsFM (atO js os) none
  lon : AllF js → ∀ (i y : Nat), i < js.length → (rowL js i).getLast? = some y → ∃ x, lg[i]? = some x ∧ x ≤ y ∧ (List.replicate js.length 0 ∈ (allO js).take m → y ≤ x)
theorem OInv.zero (js : List Job) : OInv js 0 false (List.replicate js.length 0) :=
  ⟨by rw [List.length_replicate], ⟨fun h => (Bool.noConfusion h), fun ⟨os, h, _⟩ => by rw [List.take_zero] at h; cases h⟩, fun _ i y hi _ => ⟨0, by rw [List.getElem?_replicate, if_pos hi], Nat.zero_le _, fun h => by rw [List.take_zero] at h; cases h⟩⟩
theorem OInv.step {js : List Job} (ok : ∀ j ∈ js, JOk j) (hz : AtZero js) {m : Nat} {ms : Bool} {lg lo l os : List Nat} {r : Option (Nat × Nat)} (h : OInv js m ms lg) (ho : (allO js)[m]? = some os) (hr : IsFM (atO js os) r)
    (hn : r = none → ∃ c k, Per (atO js os) c ∧ lefts (atO js os) (c * k) = lefts (atO js os) (c * (k + 1)) ∧ lo = longs (atO js os) (c * (k + 2))) (hl : l.length = js.length) (hx : ∀ (i x y : Nat), lg[i]? = some x → lo[i]? = some y → l[i]? = some (max x y)) :
    OInv js (m + 1) (ms || r.isSome) l := by
  have fit := allO_fit (List.mem_of_getElem? ho)
  have lo' := fit.length
  have et : (allO js).take (m + 1) = (allO js).take m ++ [os] := by rw [List.take_add_one, ho]; rfl
  have ok' := atO_ok ok fit
  have rn : ¬ IsFM (atO js os) none ↔ r.isSome = true := by
    cases r with
    | none => exact ⟨fun z => absurd hr z, fun z => by cases z⟩
    | some q => exact ⟨fun _ => rfl, fun _ z => by cases IsFM.uniq hr z⟩
  refine ⟨hl, ?_, fun hf i y hi hy => ?_⟩
  · rw [Bool.or_eq_true, h.mis, ← rn, et]
    constructor
    · rintro (⟨o, h1, h2⟩ | z)
      · exact ⟨o, List.mem_append_left _ h1, h2⟩
      · exact ⟨os, List.mem_append_right _ (List.mem_singleton.mpr rfl), z⟩
    · rintro ⟨o, h1, h2⟩
      rcases List.mem_append.mp h1 with h1 | h1
      · exact .inl ⟨o, h1, h2⟩
      · rw [List.mem_singleton.mp h1] at h2
        exact .inr h2
  · have srp := atO_rp lo'
    have hf' : AllOk (atO js os) := srp.symm.allOk hf
    have nm : IsFM (atO js os) none := fun t => no_miss ok' hf' (t + 1) t (Nat.lt_succ_self t)
    obtain rfl := IsFM.uniq hr nm
    obtain ⟨c, k, per, e0, rfl⟩ := hn rfl
    have l' := atO_len lo'
    have hi' : i < (atO js os).length := by omega
    obtain ⟨x, x1, x2, x3⟩ := h.lon hf i y hi hy
    refine ⟨_, hx i x _ x1 (longs_get hi'), Nat.max_le.mpr ⟨x2, max_ends_le ok' nm hi' (by rw [srp.rowL hi']; exact hy) (hf' i hi') _⟩, fun hm => ?_⟩
    rw [et] at hm
    rcases List.mem_append.mp hm with hm | hm
    · exact Nat.le_trans (x3 hm) (Nat.le_max_left _ _)
    · have e := List.mem_singleton.mp hm
      rw [← e, atO_zero hz] at per nm ⊢
      have hj := List.getElem?_eq_getElem hi
      have jk := ok _ (List.mem_of_getElem? hj)
      have jo := hz _ (List.mem_of_getElem? hj)
      obtain ⟨y1, y2, y3, y4, y5⟩ := last_sync ok hz hj (fun t _ => nm t) hy
      have c0 : comes js[i] 0 = true := by unfold comes; rw [beq_iff_eq, Nat.zero_mod, jo]
      have l0 : (lefts js 0)[i]? = some 0 := by show (List.replicate js.length 0)[i]? = some 0; rw [List.getElem?_replicate, if_pos hi]
      have pc : js[i].p ≤ c := Nat.le_of_dvd per.1 (per.2 _ (List.mem_of_getElem? hj))
      have yc : y ≤ c * (k + 2) := by rw [Nat.mul_add]; omega
      have mem := end_ends hj jk (fun t _ => nm t) (T := c * (k + 2)) (a := 0) (e := y) ⟨c0, y1, l0, y4, fun u h1 h2 => y5 u h1 h2⟩ yc
      have := maxE_ge mem
      exact Nat.le_trans (by omega) (Nat.le_max_right _ _)
theorem OInv.done {js : List Job} (ok : ∀ j ∈ js, JOk j) (hz : AtZero js) {ms : Bool} {lg : List Nat} (h : OInv js (allO js).length ms lg) : (ms = true ↔ ¬ AllF js) ∧ (AllF js → ∀ (i y : Nat), i < js.length → (rowL js i).getLast? = some y → lg[i]? = some y) := by
  obtain ⟨_, h1, h2⟩ := h
  rw [List.take_length] at h1 h2
  have z0 := allO_zero ok
  refine ⟨h1.trans ⟨fun ⟨os, ho, hn⟩ hf => hn fun t => ?_, fun hf => ⟨_, z0, fun hn => hf ?_⟩⟩, fun hf i y hi hy => ?_⟩
  · have fit := allO_fit ho
    exact no_miss (atO_ok ok fit) ((atO_rp fit.length).symm.allOk hf) (t + 1) t (Nat.lt_succ_self t)
  · rw [atO_zero hz] at hn
    exact feas_of ok hz hn
  · obtain ⟨x, x1, x2, x3⟩ := h2 hf i y hi hy
    rw [x1, Nat.le_antisymm x2 (x3 z0)]
end K7

set_option Elab.async false
set_option linter.all false
set_option maxRecDepth 100000
set_option maxHeartbeats 4000000
namespace K7
open PySem PySem.Spec PyProof.Rows L2 GX NdefX
section
variable {P : Program} {w : World} {K : PySem.W.Frag} {mg : Str → Option Value} {base : Heap}
theorem law_loop {k : Nat} (D : Pr P K mg) (f : Addr) (cdv : Value) (A : Around) (outer : List Env) (s : Shared) (H0 : Hp) (Q : VK) (E : XK) (hr : Room (k + 6) (A.deeper (envOfC "law" (defScope s_law) s.heap.objs.size f cdv))) :
    ∃ t, PSs (cxOf (CX P w) P w K mg base n_law "law" (defScope s_law) f cdv A outer s H0 E) ((defBody s_law).drop 9) t ∧ ∀ (c0 c1 c2 c3 c6 c7 c9 c10 c11 c12 c13 : Option V) (a B : Addr) (js : List Job) (os : List Nat) (H : Hp), JobsT H a js → (∀ j ∈ js, JOk j) → MainOk js → AtZero js → H B = some (.tup (nts os)) → Paired (fun o (j : Job) => o < j.p) os js → (∀ H', Q (.bl true) H') →
      t { nx := fun _ H' => Q V.non H', rt := Q } [c0, c1, c2, c3, some (.ref a), some (.int (js.length : Nat)), c6, c7, some (.ref B), c9, c10, c11, c12, c13] H := by
  have G__law_at : FnOk P w K mg base CX0 (k + 1) D._law_at.f D._law_at.fd ["jobs", "offsets"] spAt := ok_at D
  have G__law_times : FnOk P w K mg base CX0 (k + 2) D._law_times.f D._law_times.fd ["jobs"] spTimes := ok_times D
  have G__law_offsets : FnOk P w K mg base CX0 (k + 1) D._law_offsets.f D._law_offsets.fd ["jobs"] spOffs := ok_offs D
  obtain ⟨tT, hT, rT⟩ := law_end (w := w) (P := P) (base := base) D f cdv A outer s H0 Q E hr
  refine ⟨_, (pss_cons (ps_set (i := 10) sc_law.nd rfl (.inl rfl) pe_bl)
      (pss_cons (ps_setLc (i := 11) (own := [("job", 9)]) (g := (gName 9)) (tt := tYes) rfl sc_law.nd rfl rfl (sw_true rfl rfl rfl (by decide +kernel)) (pi_tup (pv 4)) (blkOk_by (own := [("job", 9)]) (N := n_law) (sc := defScope s_law) (by decide +kernel)) (fun _ _ _ _ _ => (pg_name (i := 9) sc_law.nd rfl (.inl rfl))) (fun _ _ _ _ _ => pts_nil) (fun _ _ _ _ _ => pe_int))
      (pss_cons (ps_for (by passes_own) rfl (pi_list (pe_call G__law_offsets (hr.mono (by omega)) (by rfl) D._law_offsets.g D._law_offsets.F.kp D._law_offsets.b .nil pass0 (pa_cons (pv 4) pa_nil))) (pg_name (i := 12) sc_law.nd rfl (.inl rfl)) (pss_cons (ps_set (i := 13) sc_law.nd rfl (.inl rfl) (pe_call G__law_times (hr.mono (by omega)) (by rfl) D._law_times.g D._law_times.F.kp D._law_times.b .nil pass0 (pa_cons (pe_call G__law_at (hr.mono (by omega)) (by rfl) D._law_at.g D._law_at.F.kp D._law_at.b .nil pass0 (pa_cons (pv 4) (pa_cons (pv 12) pa_nil))) pa_nil))) (pss_cons (ps_if (pt_cmpR op_notN (pe_ix (r := rIxL K) ix_list (pv 13) pe_int (fun _ _ => rfl)) pe_non (nomark _)) (pss_one (ps_set (i := 10) sc_law.nd rfl (.inl rfl) pe_bl)) pss_nil) (pss_one (ps_for (by passes_own) rfl (pi_range1 (by rfl) D.B.range (pa_cons (pv 5) pa_nil)) (pg_name (i := 6) sc_law.nd rfl (.inl rfl)) (pss_one (ps_asg (pe_callB (r := rMax2N) (call_max2N rfl) (by rfl) D.B.max (by decide +kernel) (pa_cons (pe_ix (r := rIxL K) ix_list (pv 11) (pv 6) (fun _ _ => rfl)) (pa_cons (pe_ix (r := rIxL K) ix_list (pe_ix (r := rIxL K) ix_list (pv 13) pe_int (fun _ _ => rfl)) (pv 6) (fun _ _ => rfl)) pa_nil))) (pg_sub (pv 11) (pv 6) set_list))))))))
      hT))), ?_⟩
  intro c0 c1 c2 c3 c6 c7 c9 c10 c11 c12 c13 a B js os H jt hok hmain hz hB hfit q
  have hl3 : js.length ≤ 3 := by rcases hmain with ⟨h, _⟩ | ⟨h, _⟩ <;> omega
  obtain ⟨cc, d1, d2, d3, d4⟩ := com_main hok hmain
  obtain ⟨ts, ha, pt⟩ := id jt
  have lts := jt_len pt
  refine ⟨.ref a, rfl, a, rfl, ⟨_, sqT ha⟩, lcTup (fun i H y => y = V.int 0) (fun i H H' x s h => h) (fun D i H x us ys e _ h => h) ha (by omega) (fun Dl i y H2 Qk Qn hy s2 nDl eDl hk => ⟨rfl, iteT (B := Qn H2) (hk _ H2 rfl (Same.refl _))⟩) (fun Lg H1 us nL s1 eL pu => ?_)⟩
  rw [lts] at pu
  obtain rfl := zeros_of pu
  clear pu
  have jt1 := jt.same s1
  refine ⟨.ref a, rfl, a, js, rfl, jt1, hok, hl3, fun R H2 us s2 nR eR pu => ?_⟩
  have eL2 := s2 _ _ eL
  have nRL : R ≠ Lg := (ne_of_none eL nR).symm
  have jt2 := jt1.same s2
  have lus : us.length = (allO js).length := by have := pu.length; rw [List.length_map] at this; exact this
  have hB2 := s2 _ _ (s1 _ _ hB)
  refine ⟨R, rfl, ⟨_, sqL eR⟩, ?_⟩
  refine forLs (D := { nx := _, rt := Q }) (xs := us) (fun m σ H' => ∃ ms lg, (∃ c6 c12 c13, σ = [c0, c1, c2, c3, some (.ref a), some (.int (js.length : Nat)), c6, c7, some (.ref B), c9, some (.bl ms), some (.ref Lg), c12, c13]) ∧ SameB Lg H2 H' ∧ H' Lg = some (.lst (nts lg)) ∧ OInv js m ms lg) eR ⟨false, _, ⟨_, _, _, rfl⟩, SameB.refl, eL2, OInv.zero js⟩ (fun m σ H' h => by obtain ⟨_, _, _, h, _⟩ := h; exact h _ _ nRL eR) ?_ ?_
  · rintro m x σ H3 hx ⟨ms, lg, ⟨c6, c12, c13, rfl⟩, s3, eLg3, inv⟩
    have pu3 : TupsT H3 us ((allO js).map nts) := TupsT.bl pu s3 eL2
    obtain ⟨vs0, d, hv0, rfl, hd⟩ := tups_got pu3 hx
    rw [List.getElem?_map] at hv0
    obtain ⟨c, hc, rfl⟩ := Option.map_eq_some_iff.mp hv0
    have fit := allO_fit (List.mem_of_getElem? hc)
    have fl := fit.length
    have jt3 := jt2.bl s3 eL2
    refine ⟨.ref a, rfl, .ref d, rfl, a, d, js, c, rfl, jt3, hd, fl, by omega, fun T H4 s4 jtT => ?_⟩
    have ok' := atO_ok hok fit
    have l' := atO_len fl
    have cb' : cc * (((atO js c).map (·.r)).sum + 2) < 400 := by rw [rp_sum (atO_rp fl)]; exact d4
    have cd' := atO_dvd (os := c) d3
    refine ⟨T, atO js c, cc, rfl, jtT, ok', by omega, d1, d2, cd', cb', fun Dl Lo H5 mv r lo s5 nD eD5 nG eG5 lol hm hfm hn => ?_⟩
    have eLg4 := s4 _ _ eLg3
    have eLg5 := s5 _ _ eLg4
    have nDLg : Dl ≠ Lg := (ne_of_none eLg4 nD).symm
    have nGLg : Lo ≠ Lg := (ne_of_none eLg4 nG).symm
    have s25 : SameB Lg H2 H5 := s3.trans (sameB_of (s4.trans s5))
    rw [l'] at lol
    refine ⟨_, rfl, Dl, _, 0, _, rfl, rfl, sqL eD5, atI_nat (j := 0) rfl, rfl, _, rfl, ?_⟩
    cases r with
    | none =>
      obtain rfl : mv = .non := hm
      refine iteFq rfl ?_
      refine ⟨_, rfl, (js.length : Nat), rfl, by omega, by omega, ?_⟩
      refine forRg (D := { nx := _, rt := Q }) (n := js.length) (fun t σ H' => (∃ c6, σ = [c0, c1, c2, c3, some (.ref a), some (.int (js.length : Nat)), c6, c7, some (.ref B), c9, some (.bl ms), some (.ref Lg), some (.ref d), some (.ref Dl)]) ∧ SameB Lg H5 H' ∧ ∃ l : List Nat, l.length = js.length ∧ (∀ (i x y : Nat), lg[i]? = some x → lo[i]? = some y → l[i]? = some (if i < t then max x y else x)) ∧ H' Lg = some (.lst (nts l))) ⟨⟨_, rfl⟩, SameB.refl, lg, inv.len, fun i x y h1 _ => by rw [if_neg (Nat.not_lt_zero i)]; exact h1, eLg5⟩ ?_ ?_
      · rintro t σ H6 ht ⟨⟨c6, rfl⟩, s6, l, hl, hli, eL6⟩
        obtain ⟨x, hx⟩ : ∃ x, lg[t]? = some x := ⟨_, List.getElem?_eq_getElem (by rw [inv.len]; exact ht)⟩
        obtain ⟨y, hy⟩ : ∃ y, lo[t]? = some y := ⟨_, List.getElem?_eq_getElem (by rw [lol]; exact ht)⟩
        have hlt : l[t]? = some x := by rw [hli t x y hx hy, if_neg (Nat.lt_irrefl t)]
        have eD6 := s6 _ _ nDLg eD5
        have eG6 := s6 _ _ nGLg eG5
        refine ⟨_, rfl, _, rfl, Lg, _, t, _, rfl, rfl, sqL eL6, atI_nat (nts_at hlt), _, rfl, Dl, _, 1, _, rfl, rfl, sqL eD6, atI_nat (j := 1) rfl, _, rfl, Lo, _, t, _, rfl, rfl, sqL eG6, atI_nat (nts_at hy), x, y, rfl, _, rfl, _, rfl, Lg, _, _, t, rfl, rfl, eL6, ixN_nat (by rw [nts_len, hl]; exact ht), ⟨_, rfl⟩, s6.trans sameB_upd, l.set t (max x y), by rw [List.length_set, hl], fun i x' y' h1 h2 => ?_, by rw [upd_same, nts_set]⟩
        rw [List.getElem?_set]
        by_cases e : t = i
        · subst e
          rw [hx] at h1
          rw [hy] at h2
          cases h1
          cases h2
          rw [if_pos rfl, if_pos (by rw [hl]; exact ht), if_pos (Nat.lt_succ_self t)]
        · rw [if_neg e, hli i x' y' h1 h2]
          by_cases f : i < t
          · rw [if_pos f, if_pos (by omega)]
          · rw [if_neg f, if_neg (by omega)]
      · rintro σ H6 ⟨⟨c6, rfl⟩, s6, l, hl, hli, eL6⟩
        refine ⟨ms, l, ⟨_, _, _, rfl⟩, (s25.trans s6), eL6, ?_⟩
        have st := inv.step hok hz hc hfm hn hl fun i x y h1 h2 => by
          have hi := (List.getElem?_eq_some_iff.mp h1).1
          rw [hli i x y h1 h2, if_pos (by rw [← inv.len]; exact hi)]
        rw [Option.isSome_none, Bool.or_false] at st
        exact st
    | some r =>
      obtain ⟨r1, r2⟩ := r
      obtain ⟨U, rfl, _⟩ := hm
      refine iteTq rfl ?_
      refine ⟨_, rfl, (js.length : Nat), rfl, by omega, by omega, ?_⟩
      refine forRg (D := { nx := _, rt := Q }) (n := js.length) (fun t σ H' => (∃ c6, σ = [c0, c1, c2, c3, some (.ref a), some (.int (js.length : Nat)), c6, c7, some (.ref B), c9, some (.bl true), some (.ref Lg), some (.ref d), some (.ref Dl)]) ∧ SameB Lg H5 H' ∧ ∃ l : List Nat, l.length = js.length ∧ (∀ (i x y : Nat), lg[i]? = some x → lo[i]? = some y → l[i]? = some (if i < t then max x y else x)) ∧ H' Lg = some (.lst (nts l))) ⟨⟨_, rfl⟩, SameB.refl, lg, inv.len, fun i x y h1 _ => by rw [if_neg (Nat.not_lt_zero i)]; exact h1, eLg5⟩ ?_ ?_
      · rintro t σ H6 ht ⟨⟨c6, rfl⟩, s6, l, hl, hli, eL6⟩
        obtain ⟨x, hx⟩ : ∃ x, lg[t]? = some x := ⟨_, List.getElem?_eq_getElem (by rw [inv.len]; exact ht)⟩
        obtain ⟨y, hy⟩ : ∃ y, lo[t]? = some y := ⟨_, List.getElem?_eq_getElem (by rw [lol]; exact ht)⟩
        have hlt : l[t]? = some x := by rw [hli t x y hx hy, if_neg (Nat.lt_irrefl t)]
        have eD6 := s6 _ _ nDLg eD5
        have eG6 := s6 _ _ nGLg eG5
        refine ⟨_, rfl, _, rfl, Lg, _, t, _, rfl, rfl, sqL eL6, atI_nat (nts_at hlt), _, rfl, Dl, _, 1, _, rfl, rfl, sqL eD6, atI_nat (j := 1) rfl, _, rfl, Lo, _, t, _, rfl, rfl, sqL eG6, atI_nat (nts_at hy), x, y, rfl, _, rfl, _, rfl, Lg, _, _, t, rfl, rfl, eL6, ixN_nat (by rw [nts_len, hl]; exact ht), ⟨_, rfl⟩, s6.trans sameB_upd, l.set t (max x y), by rw [List.length_set, hl], fun i x' y' h1 h2 => ?_, by rw [upd_same, nts_set]⟩
        rw [List.getElem?_set]
        by_cases e : t = i
        · subst e
          rw [hx] at h1
          rw [hy] at h2
          cases h1
          cases h2
          rw [if_pos rfl, if_pos (by rw [hl]; exact ht), if_pos (Nat.lt_succ_self t)]
        · rw [if_neg e, hli i x' y' h1 h2]
          by_cases f : i < t
          · rw [if_pos f, if_pos (by omega)]
          · rw [if_neg f, if_neg (by omega)]
      · rintro σ H6 ⟨⟨c6, rfl⟩, s6, l, hl, hli, eL6⟩
        refine ⟨true, l, ⟨_, _, _, rfl⟩, (s25.trans s6), eL6, ?_⟩
        have st := inv.step hok hz hc hfm hn hl fun i x y h1 h2 => by
          have hi := (List.getElem?_eq_some_iff.mp h1).1
          rw [hli i x y h1 h2, if_pos (by rw [← inv.len]; exact hi)]
        rw [Option.isSome_some, Bool.or_true] at st
        exact st
  · rintro σ H3 ⟨ms, lg, ⟨c6, c12, c13, rfl⟩, s3, eLg3, inv⟩
    rw [lus] at inv
    obtain ⟨i1, i2⟩ := inv.done hok hz
    exact rT _ _ _ _ _ _ _ _ _ a B Lg js os lg ms H3 (jt2.bl s3 eL2) hok hmain hz (tup_b s3 eL2 hB2) hfit i1 eLg3 i2 q
end
end K7

set_option Elab.async false
set_option linter.all false
set_option maxRecDepth 100000
set_option maxHeartbeats 4000000
namespace K7
open PySem PySem.Spec PyProof.Rows L2 GX NdefX
section
variable {P : Program} {w : World} {K : PySem.W.Frag} {mg : Str → Option Value} {base : Heap}
theorem law_fit {k : Nat} (D : Pr P K mg) (f : Addr) (cdv : Value) (A : Around) (outer : List Env) (s : Shared) (H0 : Hp) (Q : VK) (E : XK) (hr : Room (k + 6) (A.deeper (envOfC "law" (defScope s_law) s.heap.objs.size f cdv))) :
    ∃ t, PSs (cxOf (CX P w) P w K mg base n_law "law" (defScope s_law) f cdv A outer s H0 E) ((defBody s_law).drop 6) t ∧ ∀ (c0 c2 c3 c6 c7 c8 c9 c10 c11 c12 c13 : Option V) (N J : Addr) (js : List Job) (H : Hp), NumsAt H N → JobsL H J js → (∀ j ∈ js, JOk j) → MainOk js → AtZero js → (∀ H', Q (.bl true) H') →
      t { nx := fun _ H' => Q V.non H', rt := Q } [c0, some (.ref N), c2, c3, some (.ref J), some (.int (js.length : Nat)), c6, c7, c8, c9, c10, c11, c12, c13] H := by
  have G__law_draw : FnOk P w K mg base CX0 (k + 1) D._law_draw.f D._law_draw.fd ["numbers", "many"] spDraw := ok_drawD D
  have G__law_at : FnOk P w K mg base CX0 (k + 1) D._law_at.f D._law_at.fd ["jobs", "offsets"] spAt := ok_at D
  have G__law_rows_fit : FnOk P w K mg base (CX P w) (k + 5) D._law_rows_fit.f D._law_rows_fit.fd ["jobs"] spRowsFit := ok_rowsfit D
  have G__law_refusals_fit : FnOk P w K mg base CX0 (k + 6) D._law_refusals_fit.f D._law_refusals_fit.fd ["numbers", "jobs"] spRfit := ok_rfit D
  obtain ⟨tT, hT, rT⟩ := law_loop (w := w) (P := P) (base := base) D f cdv A outer s H0 Q E hr
  refine ⟨_, (pss_cons (ps_set (i := 4) sc_law.nd rfl (.inl rfl) (pe_callTy call_tuple_of (by rfl) D.B.tuple (by decide +kernel) (pa_cons (pv 4) pa_nil)))
      (pss_cons (ps_set (i := 8) sc_law.nd rfl (.inl rfl) (pe_callTy call_tuple_of (by rfl) D.B.tuple (by decide +kernel) (pa_cons (pe_lc (own := [("job", 9)]) (g := (gName 9)) (tt := tYes) rfl sc_law.nd (pi_tup (pv 4)) (blkOk_by (own := [("job", 9)]) (N := n_law) (sc := defScope s_law) (by decide +kernel)) (fun _ _ _ _ _ => (pg_name (i := 9) sc_law.nd rfl (.inl rfl))) (fun _ _ _ _ _ => pts_nil) (fun _ _ _ _ _ => (pe_call G__law_draw (hr.mono (by omega)) (by rfl) D._law_draw.g D._law_draw.F.kp D._law_draw.b .nil pass0 (pa_cons (pv 1) (pa_cons (pe_ix (r := rIxT K) ix_tup (pv 9) pe_int (fun _ _ => rfl)) pa_nil))))) pa_nil)))
      (pss_cons (ps_if (PW.pt (pw_or (pt_not (pt_val (pe_call G__law_rows_fit (hr.mono (by omega)) (by rfl) D._law_rows_fit.g D._law_rows_fit.F.kp D._law_rows_fit.b .nil (passes_call (takes_of rfl rfl rfl rfl) (fun _ _ _ _ h => h)) (pa_cons (pv 4) pa_nil)))) (pw_or (pt_not (pt_val (pe_call G__law_rows_fit (hr.mono (by omega)) (by rfl) D._law_rows_fit.g D._law_rows_fit.F.kp D._law_rows_fit.b .nil (passes_call (takes_of rfl rfl rfl rfl) (fun _ _ _ _ h => h)) (pa_cons (pe_call G__law_at (hr.mono (by omega)) (by rfl) D._law_at.g D._law_at.F.kp D._law_at.b .nil pass0 (pa_cons (pv 4) (pa_cons (pv 8) pa_nil))) pa_nil)))) (pw_or1 (pt_not (pt_val (pe_call G__law_refusals_fit hr (by rfl) D._law_refusals_fit.g D._law_refusals_fit.F.kp D._law_refusals_fit.b .nil pass0 (pa_cons (pv 1) (pa_cons (pv 4) pa_nil))))))))) (pss_one (ps_ret pe_bl)) pss_nil)
      hT))), ?_⟩
  intro c0 c2 c3 c6 c7 c8 c9 c10 c11 c12 c13 N J js H n0 jl hok hmain hz q
  have hl3 : js.length ≤ 3 := by rcases hmain with ⟨h, _⟩ | ⟨h, _⟩ <;> omega
  have hl1 : 1 ≤ js.length := by rcases hmain with ⟨h, _⟩ | ⟨h, _⟩ <;> omega
  obtain ⟨ts, eJ, ptJ⟩ := jl
  refine ⟨.ref J, rfl, J, ts, rfl, .inl ⟨sqL eJ, fun a na => ?_⟩⟩
  have sa := same_upd na (o := .tup ts)
  have n1 := n0.same sa
  have pt := ptJ.same sa
  have ha : (upd H a (.tup ts)) a = some (.tup ts) := upd_same
  generalize upd H a (.tup ts) = H1 at sa n1 pt ha
  have jt : JobsT H1 a js := ⟨ts, ha, pt⟩
  have lts := jt_len pt
  have naN : a ≠ N := nums_ne n0 na
  refine ⟨.ref a, rfl, a, rfl, ⟨_, sqT ha⟩, lcTupM (xs := ts) (fun Dl i us H' => ∃ os : List Nat, us = nts os ∧ os.length = i ∧ H' Dl = some (.lst us) ∧ Dl ≠ N ∧ SameB N H1 H' ∧ NumsAt H' N ∧ Paired (fun o (j : Job) => o < j.p) os (js.take i)) (by omega) (fun Dl nD => ⟨[], rfl, rfl, upd_same, nums_ne n1 nD, sameB_of (same_upd nD), nums_upd n1 (nums_ne n1 nD), .nil⟩) (fun Dl i us H' h => ?_) (fun Dl i x us H2 Qk Qn hx nD h hk => ?_) (fun Dl us H2 nD h => ?_)⟩
  · obtain ⟨os, rfl, h1, h2, _, h3, _⟩ := h
    exact ⟨h2, by rw [nts_len, h1], h3 _ _ naN ha⟩
  · obtain ⟨os, rfl, h1, h2, h3, h4, h5, h6⟩ := h
    obtain ⟨j, c, hji, rfl, hc⟩ := jobs_got (tupsB n1 h4 pt) hx
    have jk := hok j (List.mem_of_getElem? hji)
    refine ⟨rfl, iteT (B := Qn H2) ⟨.ref N, rfl, _, rfl, c, _, 1, _, rfl, rfl, sqT hc, atI_nat (j := 1) rfl, N, j.p, rfl, jk.p1, h5, fun H5 o ho s5 n5 => hk _ H5 (s5 _ _ h3 h2) ⟨os ++ [o], ?_, ?_, upd_same, h3, fun b o' hb e => ?_, nums_upd n5 h3, ?_⟩⟩⟩
    · rw [nts_app]; rfl
    · rw [List.length_append, h1]; rfl
    · rw [upd_ne (ne_of_none e nD)]
      exact s5 _ _ hb (h4 _ _ hb e)
    · rw [List.take_add_one, hji]
      exact paired_snoc h6 ho
  · obtain ⟨os, rfl, h1, h2, h3, h4, h5, h6⟩ := h
    rw [lts, List.take_length] at h6
    refine ⟨Dl, _, rfl, .inl ⟨sqL h2, fun B nB => ?_⟩⟩
    have sB := same_upd nB (o := .tup (nts os))
    have hB : (upd H2 B (.tup (nts os))) B = some (.tup (nts os)) := upd_same
    have jt2 := (jt.b n1 h4).same sB
    have n2 := h5.same sB
    generalize upd H2 B (.tup (nts os)) = H3 at sB hB jt2 n2
    have lo := h6.length
    refine ⟨.ref a, rfl, a, js, rfl, jt2, hok, by omega, fun H4 s4 => ⟨true, rfl, iteF ?_⟩⟩
    refine ⟨.ref a, rfl, .ref B, rfl, a, B, js, os, rfl, jt2.same s4, s4 _ _ hB, lo, by omega, fun T H5 s5 jtT => ?_⟩
    refine ⟨T, atO js os, rfl, jtT, atO_ok hok h6, by rw [atO_len lo]; omega, fun H6 s6 => ⟨true, rfl, iteF ?_⟩⟩
    have s36 := s4.trans (s5.trans s6)
    have jt6 := jt2.same s36
    have n6 := n2.same s36
    refine ⟨.ref N, rfl, .ref a, rfl, N, a, js, rfl, n6, jt6, hok, hl1, by omega, fun H7 s7 n7 => ⟨true, rfl, iteF ?_⟩⟩
    obtain ⟨l, en, _⟩ := n6
    exact rT _ _ _ _ _ _ _ _ _ _ _ a B js os H7 (jt6.bl s7 en) hok hmain hz (tup_b s7 en (s36 _ _ hB)) h6 q
theorem law_jobs {k : Nat} (D : Pr P K mg) (f : Addr) (cdv : Value) (A : Around) (outer : List Env) (s : Shared) (H0 : Hp) (Q : VK) (E : XK) (hr : Room (k + 6) (A.deeper (envOfC "law" (defScope s_law) s.heap.objs.size f cdv))) :
    ∃ t, PSs (cxOf (CX P w) P w K mg base n_law "law" (defScope s_law) f cdv A outer s H0 E) ((defBody s_law).drop 3) t ∧ ∀ (c0 c3 c4 c5 c6 c7 c8 c9 c10 c11 c12 c13 : Option V) (N : Addr) (wd : Nat) (H : Hp), NumsAt H N → wd < 7 → (∀ H', Q (.bl true) H') →
      t { nx := fun _ H' => Q V.non H', rt := Q } [c0, some (.ref N), some (.int (wd : Nat)), c3, c4, c5, c6, c7, c8, c9, c10, c11, c12, c13] H := by
  have G__law_draw : FnOk P w K mg base CX0 (k + 1) D._law_draw.f D._law_draw.fd ["numbers", "many"] spDraw := ok_drawD D
  obtain ⟨tT, hT, rT⟩ := law_fit (w := w) (P := P) (base := base) D f cdv A outer s H0 Q E hr
  refine ⟨_, (pss_cons (ps_set (i := 4) sc_law.nd rfl (.inl rfl) (pe_lst pa_nil))
      (pss_cons (ps_set (i := 5) sc_law.nd rfl (.inl rfl) (pe_ix (r := rIxL K) ix_list (pe_lst (pa_cons pe_int (pa_cons pe_int (pa_cons pe_int (pa_cons pe_int (pa_cons pe_int (pa_cons pe_int (pa_cons pe_int pa_nil)))))))) (pv 2) (fun _ _ => rfl)))
      (pss_cons (ps_for (by passes_own) rfl (pi_range1 (by rfl) D.B.range (pa_cons (pv 5) pa_nil)) (pg_name (i := 6) sc_law.nd rfl (.inl rfl)) (pss_cons (ps_set (i := 7) sc_law.nd rfl (.inl rfl) (pe_op (r := rAddN) op_AddN pe_int (pe_op (r := rModN) op_ModN (pe_callTy call_int1 (by rfl) D.B.int (by decide +kernel) (pa_cons (pe_call G__law_draw (hr.mono (by omega)) (by rfl) D._law_draw.g D._law_draw.F.kp D._law_draw.b .nil pass0 (pa_cons (pv 1) (pa_cons pe_int pa_nil))) pa_nil)) (pe_ix (r := rIxL K) ix_list (pe_lst (pa_cons pe_int (pa_cons pe_int pa_nil))) (pe_op (r := rSubN) op_SubN (pv 5) pe_int) (fun _ _ => rfl))))) (pss_one (ps_expr (pe_bm PySem.F.plainAttrs_list PySem.F.slot_list_append PySem.F.type_list_append mt_append (pv 4) (pa_cons (pe_tup (pa_cons (pe_op (r := rAddN) op_AddN pe_int (pe_op (r := rModN) op_ModN (pe_callTy call_int1 (by rfl) D.B.int (by decide +kernel) (pa_cons (pe_call G__law_draw (hr.mono (by omega)) (by rfl) D._law_draw.g D._law_draw.F.kp D._law_draw.b .nil pass0 (pa_cons (pv 1) (pa_cons pe_int pa_nil))) pa_nil)) (pe_callB (r := rMin2N) (call_min2N rfl) (by rfl) D.B.min (by decide +kernel) (pa_cons pe_int (pa_cons (pv 7) pa_nil))))) (pa_cons (pv 7) (pa_cons pe_int pa_nil)))) pa_nil))))))
      hT))), ?_⟩
  intro c0 c3 c4 c5 c6 c7 c8 c9 c10 c11 c12 c13 N wd H n0 hwd q
  refine ⟨Nat.zero_le _, fun R nR => ⟨by decide, fun L nL => ⟨_, rfl, pick (ms := [2, 3, 2, 3, 2, 3, 3]) upd_same hwd fun many hm => ?_⟩⟩⟩
  have hm : many = 2 ∨ many = 3 := by simp only [List.mem_cons, List.not_mem_nil, or_false] at hm; omega
  clear hwd
  have hRN := nums_ne n0 nR
  have sR := same_upd nR (o := .lst [])
  have sL := same_upd nL (o := .lst (nts [2, 3, 2, 3, 2, 3, 3]))
  obtain ⟨zz, hzz⟩ : ∃ zz : Nat, zz = if many = 2 then 6 else 4 := ⟨_, rfl⟩
  refine ⟨_, rfl, (many : Nat), rfl, by omega, by omega, ?_⟩
  refine forRg (D := { nx := _, rt := Q }) (n := many) (fun i σ H' => (∃ c6 c7, σ = [c0, some (.ref N), some (.int (wd : Nat)), c3, some (.ref R), some (.int (many : Nat)), c6, c7, c8, c9, c10, c11, c12, c13]) ∧ NumsAt H' N ∧ ∃ js, JobsL H' R js ∧ js.length = i ∧ ∀ j ∈ js, JOk j ∧ j.o = 0 ∧ j.p ≤ zz ∧ j.r ≤ 3) ⟨⟨_, _, rfl⟩, (n0.same sR).same sL, [], ⟨[], sL _ _ upd_same, .nil⟩, rfl, fun j h => absurd h (by simp)⟩ ?_ ?_
  · rintro i σ H2 hi ⟨⟨c6, c7, rfl⟩, n2, js, jl, hlen, hok⟩
    refine ⟨.ref N, rfl, N, 12, rfl, by decide, n2, fun H3 v hv s3 n3 => .inl ⟨_, rfl, ?_⟩⟩
    refine ⟨by decide, fun L2 nL2 => ⟨_, rfl, many, 2, rfl, rfl, by omega, ?_⟩⟩
    have sL2 := same_upd nL2 (o := .lst (nts [6, 4]))
    have h64 : (nts [6, 4])[many - 2]? = some (.int (zz : Nat)) := by rw [hzz]; rcases hm with rfl | rfl <;> rfl
    refine ⟨L2, _, ((many - 2 : Nat) : Int), .int (zz : Nat), rfl, rfl, sqL upd_same, atI_nat h64, v, zz, rfl, rfl, by rw [hzz]; split <;> decide, 1, v % zz, rfl, rfl, ?_⟩
    have hz0 : 0 < zz := by rw [hzz]; split <;> decide
    have hz6 : zz ≤ 6 := by rw [hzz]; split <;> decide
    have hvz := Nat.mod_lt v hz0
    have s23 := s3.trans (sameB_of (a := N) sL2)
    have n4 := n3.same sL2
    have jl4 := jl.b n2 hRN s23
    generalize v % zz = v' at hvz
    obtain ⟨p, hp⟩ : ∃ p, p = 1 + v' := ⟨_, rfl⟩
    rw [← hp]
    refine ⟨.ref R, rfl, .inl ⟨rfl, _, sqL jl4.choose_spec.1⟩, .ref N, rfl, N, 12, rfl, by decide, n4, fun H5 r hr12 s5 n5 => .inl ⟨_, rfl, _, rfl, 3, p, rfl, r, min 3 p, rfl, rfl, by omega, 1, r % min 3 p, rfl, rfl, _, rfl, by show 3 ≤ sizeLine; decide, fun T nT => ?_⟩⟩
    have hr3 := Nat.mod_lt r (show 0 < min 3 p by omega)
    have jl5 := jl4.b n4 hRN s5
    have sT := same_upd nT (o := .tup [.int ((1 + r % min 3 p : Nat) : Int), .int (p : Nat), .int 0])
    obtain ⟨us, eR, pu⟩ := jl5.same sT
    have lus := jt_len pu
    rw [← hlen] at hi
    refine ⟨R, us, _, rfl, rfl, eR, by rw [sizeLine_eq]; omega, ⟨_, _, rfl⟩, nums_upd (n5.same sT) hRN, js ++ [⟨1 + r % min 3 p, p, 0⟩], JobsL.app eR pu upd_same, by rw [List.length_append, hlen]; rfl, fun j hj => ?_⟩
    rcases List.mem_append.mp hj with hj | hj
    · exact hok j hj
    · rw [List.mem_singleton.mp hj]
      exact ⟨⟨by show 1 ≤ 1 + _; omega, by show 1 + _ ≤ 12; omega, by show 1 ≤ p; omega, by show p ≤ 24; omega, by show 0 < p; omega⟩, rfl, by show p ≤ zz; omega, by show 1 + _ ≤ 3; omega⟩
  · rintro σ H2 ⟨⟨c6, c7, rfl⟩, n2, js, jl, hlen, hok⟩
    have hmain : MainOk js := by
      rcases hm with rfl | rfl
      · exact .inl ⟨hlen, fun j hj => ⟨by have := (hok j hj).2.2.1; rw [hzz] at this; exact this, (hok j hj).2.2.2⟩⟩
      · exact .inr ⟨hlen, fun j hj => ⟨by have := (hok j hj).2.2.1; rw [hzz] at this; exact this, (hok j hj).2.2.2⟩⟩
    have := rT c0 (some (.int (wd : Nat))) c3 c6 c7 c8 c9 c10 c11 c12 c13 N R js H2 n2 jl (fun j hj => (hok j hj).1) hmain (fun j hj => (hok j hj).2.1) q
    rw [hlen] at this
    exact this
end
end K7

set_option Elab.async false
set_option linter.all false
set_option maxRecDepth 100000
set_option maxHeartbeats 4000000
namespace K7
open PySem PySem.Spec PyProof.Rows L2 GX NdefX
def spLaw (K : PySem.W.Frag) : Sp := fun vs H Q _ => ∃ (a : Addr) (ns : List Int), vs = [.ref a] ∧ SqL K H a (ns.map V.int) ∧ ns.length ≤ 63 ∧ ∀ H', Q (.bl true) H'
def five (x y : Nat) : List Job := [⟨x, 24, 0⟩, ⟨1, 24, 3⟩, ⟨1, 24, 0⟩, ⟨1, 24, 23⟩, ⟨y, 24, 0⟩]
section
variable {P : Program} {w : World} {K : PySem.W.Frag} {mg : Str → Option Value} {base : Heap}
theorem ok_law {k : Nat} (D : Pr P K mg) {f : Addr} {fd : FuncData} (F : Fun K "law" "law" s_law f fd) : FnOk P w K mg base (CX P w) (k + 7) f fd ["script"] (spLaw K) := by
  have G__law_numbers : FnOk P w K mg base CX0 (k + 1) D._law_numbers.f D._law_numbers.fd ["script"] (spLNums K) := ok_numsD D
  have G__law_draw : FnOk P w K mg base CX0 (k + 1) D._law_draw.f D._law_draw.fd ["numbers", "many"] spDraw := ok_drawD D
  have G_never_misses : FnOk P w K mg base (CX P w) (k + 4) D.never_misses.f D.never_misses.fd ["jobs"] (spNever D.BadNumber.C D.TooMany.C) := ok_never D
  have G__law_rows_fit : FnOk P w K mg base (CX P w) (k + 5) D._law_rows_fit.f D._law_rows_fit.fd ["jobs"] spRowsFit := ok_rowsfit D
  have G__law_refusals_fit : FnOk P w K mg base CX0 (k + 6) D._law_refusals_fit.f D._law_refusals_fit.fd ["numbers", "jobs"] spRfit := ok_rfit D
  refine F.okX sc_law (fun vs H Q E h => ?_) (fun cdv A outer s H vs Q E hr h => ?_)
  · obtain ⟨a, ns, rfl, _⟩ := h
    rfl
  · obtain ⟨a0, ns, rfl, hS, hlen, q⟩ := h
    obtain ⟨tT, hT, rT⟩ := law_jobs (w := w) (P := P) (base := base) D f cdv A outer s H Q E hr
    refine ⟨_, (pss_cons (ps_set (i := 1) sc_law.nd rfl (.inr rfl) (pe_call G__law_numbers (hr.mono (by omega)) (by rfl) D._law_numbers.g D._law_numbers.F.kp D._law_numbers.b .nil pass0 (pa_cons (pv 0) pa_nil)))
      (pss_cons (ps_set (i := 2) sc_law.nd rfl (.inl rfl) (pe_call G__law_draw (hr.mono (by omega)) (by rfl) D._law_draw.g D._law_draw.F.kp D._law_draw.b .nil pass0 (pa_cons (pv 1) (pa_cons pe_int pa_nil))))
      (pss_cons (ps_if (pt_cmpR op_eq (pv 2) pe_int (nomark _)) (pss_cons (ps_set (i := 3) sc_law.nd rfl (.inl rfl) (pe_ix (r := rIxL K) ix_list (pe_lst (pa_cons pe_int (pa_cons pe_int pa_nil))) (pe_call G__law_draw (hr.mono (by omega)) (by rfl) D._law_draw.g D._law_draw.F.kp D._law_draw.b .nil pass0 (pa_cons (pv 1) (pa_cons pe_int pa_nil))) (fun _ _ => rfl))) (pss_cons (ps_set (i := 4) sc_law.nd rfl (.inl rfl) (pe_tup (pa_cons (pe_tup (pa_cons (pv 3) (pa_cons pe_int (pa_cons pe_int pa_nil)))) (pa_cons (pe_tup (pa_cons pe_int (pa_cons pe_int (pa_cons pe_int pa_nil)))) (pa_cons (pe_tup (pa_cons pe_int (pa_cons pe_int (pa_cons pe_int pa_nil)))) (pa_cons (pe_tup (pa_cons pe_int (pa_cons pe_int (pa_cons pe_int pa_nil)))) (pa_cons (pe_tup (pa_cons (pe_op (r := rAddN) op_AddN pe_int (pe_call G__law_draw (hr.mono (by omega)) (by rfl) D._law_draw.g D._law_draw.F.kp D._law_draw.b .nil pass0 (pa_cons (pv 1) (pa_cons pe_int pa_nil)))) (pa_cons pe_int (pa_cons pe_int pa_nil)))) pa_nil))))))) (pss_cons (ps_if (pt_cmpR op_ne (pe_call G_never_misses (hr.mono (by omega)) (by rfl) D.never_misses.g D.never_misses.F.kp D.never_misses.b .nil (passes_call (takes_of rfl rfl rfl rfl) (fun _ _ _ _ h => h)) (pa_cons (pv 4) pa_nil)) (pe_cmpR op_le (pe_op (r := rAddN) op_AddN (pe_op (r := rAddN) op_AddN (pv 3) pe_int) (pe_ix (r := rIxT K) ix_tup (pe_ix (r := rIxT K) ix_tup (pv 4) pe_int (fun _ _ => rfl)) pe_int (fun _ _ => rfl))) pe_int (nomark _)) (nomark _)) (pss_one (ps_ret pe_bl)) pss_nil) (pss_one (ps_ret (pe_and (pe_call G__law_rows_fit (hr.mono (by omega)) (by rfl) D._law_rows_fit.g D._law_rows_fit.F.kp D._law_rows_fit.b .nil (passes_call (takes_of rfl rfl rfl rfl) (fun _ _ _ _ h => h)) (pa_cons (pv 4) pa_nil)) (pe_one (pe_call G__law_refusals_fit hr (by rfl) D._law_refusals_fit.g D._law_refusals_fit.F.kp D._law_refusals_fit.b .nil pass0 (pa_cons (pv 1) (pa_cons (pv 4) pa_nil)))))))))) pss_nil)
      hT))), ?_⟩
    refine ⟨.ref a0, rfl, a0, ns, rfl, hS, hlen, fun N H1 l s1 nN eN hl => ?_⟩
    have n1 : NumsAt H1 N := ⟨l, eN, hl⟩
    refine ⟨.ref N, rfl, N, 8, rfl, by decide, n1, fun H2 wd hw s2 n2 => ?_⟩
    refine ⟨_, rfl, rfl, _, rfl, ?_⟩
    by_cases h7 : wd = 7
    rotate_left
    · exact iteFq (decide_eq_false fun z => h7 (by have := V.int.inj z; omega)) (rT _ _ _ _ _ _ _ _ _ _ _ _ N wd H2 n2 (by omega) q)
    refine iteTq (decide_eq_true (by rw [h7]; rfl)) ?_
    refine ⟨by decide, fun L nL => ⟨.ref N, rfl, N, 2, rfl, by decide, n2.same (same_upd nL), fun H3 v hv s3 n3 => pick (ms := [1, 12]) (s3 _ _ (nums_ne n2 nL) upd_same) hv fun fst hf => ?_⟩⟩
    have hf : 1 ≤ fst ∧ fst ≤ 12 := by simp only [List.mem_cons, List.not_mem_nil, or_false] at hf; omega
    refine ⟨_, rfl, by show 3 ≤ sizeLine; decide, fun T1 m1 => ⟨by show 3 ≤ sizeLine; decide, fun T2 m2 => ⟨by show 3 ≤ sizeLine; decide, fun T3 m3 => ⟨by show 3 ≤ sizeLine; decide, fun T4 m4 => ?_⟩⟩⟩⟩
    have u1 := same_upd m1 (o := .tup (jv ⟨fst, 24, 0⟩))
    have u2 := same_upd m2 (o := .tup (jv ⟨1, 24, 3⟩))
    have u3 := same_upd m3 (o := .tup (jv ⟨1, 24, 0⟩))
    have u4 := same_upd m4 (o := .tup (jv ⟨1, 24, 23⟩))
    have g4 : ∀ N, NumsAt H3 N → NumsAt _ N := fun N n => n.same (u1.trans (u2.trans (u3.trans u4)))
    refine ⟨.ref N, rfl, N, 12, rfl, by decide, g4 N n3, fun H4 r hr12 s4 n4 => ⟨1, r, rfl, rfl, by show 3 ≤ sizeLine; decide, fun T5 m5 => ?_⟩⟩
    have u5 := same_upd m5 (o := .tup (jv ⟨1 + r, 24, 0⟩))
    refine ⟨by show 5 ≤ sizeLine; decide, fun J mJ => ?_⟩
    have uJ := same_upd mJ (o := .tup [.ref T1, .ref T2, .ref T3, .ref T4, .ref T5])
    have s4J := u5.trans uJ
    have hJ : (upd (upd H4 T5 (.tup (jv ⟨1 + r, 24, 0⟩))) J (.tup [.ref T1, .ref T2, .ref T3, .ref T4, .ref T5])) J = some (.tup [.ref T1, .ref T2, .ref T3, .ref T4, .ref T5]) := upd_same
    have h5 := uJ _ _ (show (upd H4 T5 (.tup (jv ⟨1 + r, 24, 0⟩))) T5 = some (.tup (jv ⟨1 + r, 24, 0⟩)) from upd_same)
    have hN := g4 N n3
    have x4 := upd_same (H := upd (upd (upd H3 T1 (.tup (jv ⟨fst, 24, 0⟩))) T2 (.tup (jv ⟨1, 24, 3⟩))) T3 (.tup (jv ⟨1, 24, 0⟩))) (a := T4) (o := HO.tup (jv ⟨1, 24, 23⟩))
    have x3 := u4 _ _ (upd_same (H := upd (upd H3 T1 (.tup (jv ⟨fst, 24, 0⟩))) T2 (.tup (jv ⟨1, 24, 3⟩))) (a := T3) (o := HO.tup (jv ⟨1, 24, 0⟩)))
    have x2 := u4 _ _ (u3 _ _ (upd_same (H := upd H3 T1 (.tup (jv ⟨fst, 24, 0⟩))) (a := T2) (o := HO.tup (jv ⟨1, 24, 3⟩))))
    have x1 := u4 _ _ (u3 _ _ (u2 _ _ (upd_same (H := H3) (a := T1) (o := HO.tup (jv ⟨fst, 24, 0⟩)))))
    obtain ⟨nl, eNl, _⟩ := hN
    have y := fun (T : Addr) (j : Job) e => s4J _ _ (tup_b (b := T) (ys := jv j) s4 eNl e)
    have jt : JobsT (upd (upd H4 T5 (.tup (jv ⟨1 + r, 24, 0⟩))) J (.tup [.ref T1, .ref T2, .ref T3, .ref T4, .ref T5])) J (five fst (1 + r)) :=
      ⟨_, hJ, .cons ⟨T1, rfl, y _ _ x1⟩ (.cons ⟨T2, rfl, y _ _ x2⟩ (.cons ⟨T3, rfl, y _ _ x3⟩ (.cons ⟨T4, rfl, y _ _ x4⟩ (.cons ⟨T5, rfl, h5⟩ .nil))))⟩
    have n5 := n4.same s4J
    have hok : ∀ j ∈ five fst (1 + r), JOk j := fun j hj => by
      simp only [five, List.mem_cons, List.not_mem_nil, or_false] at hj
      rcases hj with rfl | rfl | rfl | rfl | rfl <;> constructor <;> (dsimp only; omega)
    have h24 := all24 hok (fun j hj => by
      simp only [five, List.mem_cons, List.not_mem_nil, or_false] at hj
      rcases hj with rfl | rfl | rfl | rfl | rfl <;> rfl) (by show 1 ≤ 5; decide)
    have hsum : ((five fst (1 + r)).map (·.r)).sum = fst + 3 + (1 + r) := by simp [five]; omega
    rw [hsum] at h24
    refine ⟨_, rfl, .ref J, some (itsOf (five fst (1 + r))), rfl, jb_of jt (by show 5 ≤ 1000; decide), chkd_good hok (by show 5 ≤ 5; decide) fun H6 b s6 hb => ?_⟩
    have jt6 := jt.same s6
    have hJ6 := s6 _ _ hJ
    have h56 := s6 _ _ h5
    have n6 := n5.same s6
    refine ⟨_, rfl, fst, 3, rfl, rfl, _, rfl, J, _, 4, .ref T5, rfl, rfl, sqT hJ6, atI_nat (j := 4) rfl, T5, _, 0, _, rfl, rfl, sqT h56, atI_nat (j := 0) rfl, fst + 3, 1 + r, rfl, rfl, _, _, rfl, rfl, rfl, _, rfl, ?_⟩
    have eb : b = decide ((((fst + 3 + (1 + r)) : Nat) : Int) ≤ 24) := by
      rw [Bool.eq_iff_iff, decide_eq_true_iff]
      exact hb.trans (h24.trans (by omega))
    refine iteFq (by show (!decide (V.bl b = V.bl (decide (_ ≤ _)))) = false; rw [← eb, decide_eq_true rfl]; rfl) ?_
    refine ⟨.ref J, rfl, J, _, rfl, jt6, hok, by show 5 ≤ 5; decide, fun H7 s7 => ⟨true, rfl, iteT ?_⟩⟩
    exact ⟨.ref N, rfl, .ref J, rfl, N, J, _, rfl, n6.same s7, jt6.same s7, hok, by show 1 ≤ 5; decide, by show 5 ≤ 5; decide, fun H8 s8 n8 => q H8⟩
end
end K7

set_option Elab.async false
set_option linter.all false
set_option maxRecDepth 100000
set_option maxHeartbeats 4000000
namespace K7
open PySem PySem.Spec PyProof.Rows L2 GX NdefX
theorem exm_of {K : PySem.W.Frag} {S C : Addr} {b : Bool} (h1 : PySem.W.subIn K (.ref C) (.type "BaseException") = some true) (h2 : PySem.W.isClsIn K C = true) (h3 : PySem.W.typeIn K (.ref C) = some (.type "type")) (h4 : PySem.W.subIn K (.ref S) (.ref C) = some b) :
    PySem.W.exmOne K (.ref S) (.ref C) = some b := by
  have e1 : (PySem.W.subIn K (.ref C) (.type "BaseException") == some true) = true := by rw [h1] <;> rfl
  have e2 : ((PySem.W.clsIn K C).isSome && PySem.W.typeIn K (.ref C) == some (.type "type")) = true := by
    have h2' : (PySem.W.clsIn K C).isSome = true := h2
    rw [h2', h3] <;> rfl
  show (if (PySem.W.subIn K (.ref C) (.type "BaseException") == some true) = true then (if ((PySem.W.clsIn K C).isSome && PySem.W.typeIn K (.ref C) == some (.type "type")) = true then PySem.W.subIn K (.ref S) (.ref C) else none) else none) = some b
  rw [if_pos e1, if_pos e2]
  exact h4
theorem all_mk {P : Program} {w : World} {K : PySem.W.Frag} {h : Heap} {mg : Str → Option Value} {fa : Addr} (X : K.In h) (G : h.Ns mainGlobals mg) (hfa : mg "law" = some (.ref fa))
    {KClock gClock_init gClock_run_tick : Addr}
    {ocClock_init kVClock_init dcClock_init pmClock_init cdClock_init ctClock_init ocClock_run_tick kVClock_run_tick dcClock_run_tick pmClock_run_tick cdClock_run_tick ctClock_run_tick : Value}
    {odClock_init anClock_init odClock_run_tick anClock_run_tick : Option Addr}
    {slClock_init slClock_run_tick : Array (Option Value)}
    {fpis_whole fpis_listed fpis_time fpcheck_jobs fpcheck_place fpsettled fpfirst_miss fpjob_ends fp_rounded_up fp_row fprows_of_response fpresponse fpnever_misses fp_law_numbers fp_law_draw fp_law_int fp_law_responses fp_law_common fp_law_times fp_law_offsets fp_law_at fp_law_rows_fit fp_law_refused fp_law_refusals_fit fp_law_drawn_fits flaw ARungsError CBadNumber iBadNumber ccBadNumber cdaBadNumber NBadNumber CTooMany iTooMany ccTooMany cdaTooMany NTooMany : Addr}
    {ocpis_whole kVpis_whole dcpis_whole pmpis_whole cdpis_whole ctpis_whole ocpis_listed kVpis_listed dcpis_listed pmpis_listed cdpis_listed ctpis_listed ocpis_time kVpis_time dcpis_time pmpis_time cdpis_time ctpis_time ocpcheck_jobs kVpcheck_jobs dcpcheck_jobs pmpcheck_jobs cdpcheck_jobs ctpcheck_jobs ocpcheck_place kVpcheck_place dcpcheck_place pmpcheck_place cdpcheck_place ctpcheck_place ocpsettled kVpsettled dcpsettled pmpsettled cdpsettled ctpsettled ocpfirst_miss kVpfirst_miss dcpfirst_miss pmpfirst_miss cdpfirst_miss ctpfirst_miss ocpjob_ends kVpjob_ends dcpjob_ends pmpjob_ends cdpjob_ends ctpjob_ends ocp_rounded_up kVp_rounded_up dcp_rounded_up pmp_rounded_up cdp_rounded_up ctp_rounded_up ocp_row kVp_row dcp_row pmp_row cdp_row ctp_row ocprows_of_response kVprows_of_response dcprows_of_response pmprows_of_response cdprows_of_response ctprows_of_response ocpresponse kVpresponse dcpresponse pmpresponse cdpresponse ctpresponse ocpnever_misses kVpnever_misses dcpnever_misses pmpnever_misses cdpnever_misses ctpnever_misses ocp_law_numbers kVp_law_numbers dcp_law_numbers pmp_law_numbers cdp_law_numbers ctp_law_numbers ocp_law_draw kVp_law_draw dcp_law_draw pmp_law_draw cdp_law_draw ctp_law_draw ocp_law_int kVp_law_int dcp_law_int pmp_law_int cdp_law_int ctp_law_int ocp_law_responses kVp_law_responses dcp_law_responses pmp_law_responses cdp_law_responses ctp_law_responses ocp_law_common kVp_law_common dcp_law_common pmp_law_common cdp_law_common ctp_law_common ocp_law_times kVp_law_times dcp_law_times pmp_law_times cdp_law_times ctp_law_times ocp_law_offsets kVp_law_offsets dcp_law_offsets pmp_law_offsets cdp_law_offsets ctp_law_offsets ocp_law_at kVp_law_at dcp_law_at pmp_law_at cdp_law_at ctp_law_at ocp_law_rows_fit kVp_law_rows_fit dcp_law_rows_fit pmp_law_rows_fit cdp_law_rows_fit ctp_law_rows_fit ocp_law_refused kVp_law_refused dcp_law_refused pmp_law_refused cdp_law_refused ctp_law_refused ocp_law_refusals_fit kVp_law_refusals_fit dcp_law_refusals_fit pmp_law_refusals_fit cdp_law_refusals_fit ctp_law_refusals_fit ocp_law_drawn_fits kVp_law_drawn_fits dcp_law_drawn_fits pmp_law_drawn_fits cdp_law_drawn_fits ctp_law_drawn_fits oclaw kVlaw dclaw pmlaw cdlaw ctlaw oiBadNumber kViBadNumber dciBadNumber pmiBadNumber ctiBadNumber cclBadNumber clBadNumber oiTooMany kViTooMany dciTooMany pmiTooMany ctiTooMany cclTooMany clTooMany : Value}
    {odpis_whole anpis_whole odpis_listed anpis_listed odpis_time anpis_time odpcheck_jobs anpcheck_jobs odpcheck_place anpcheck_place odpsettled anpsettled odpfirst_miss anpfirst_miss odpjob_ends anpjob_ends odp_rounded_up anp_rounded_up odp_row anp_row odprows_of_response anprows_of_response odpresponse anpresponse odpnever_misses anpnever_misses odp_law_numbers anp_law_numbers odp_law_draw anp_law_draw odp_law_int anp_law_int odp_law_responses anp_law_responses odp_law_common anp_law_common odp_law_times anp_law_times odp_law_offsets anp_law_offsets odp_law_at anp_law_at odp_law_rows_fit anp_law_rows_fit odp_law_refused anp_law_refused odp_law_refusals_fit anp_law_refusals_fit odp_law_drawn_fits anp_law_drawn_fits odlaw anlaw diBadNumber aniBadNumber cddBadNumber cldBadNumber ddBadNumber diTooMany aniTooMany cddTooMany cldTooMany ddTooMany : Option Addr}
    {slpis_whole slpis_listed slpis_time slpcheck_jobs slpcheck_place slpsettled slpfirst_miss slpjob_ends slp_rounded_up slp_row slprows_of_response slpresponse slpnever_misses slp_law_numbers slp_law_draw slp_law_int slp_law_responses slp_law_common slp_law_times slp_law_offsets slp_law_at slp_law_rows_fit slp_law_refused slp_law_refusals_fit slp_law_drawn_fits sllaw sliBadNumber ccsBadNumber cslBadNumber sliTooMany ccsTooMany cslTooMany : Array (Option Value)}
    {vsBadNumber vsTooMany : Array Value}
    {tfBadNumber tfTooMany : Tok}
    {nmBadNumber qBadNumber fileBadNumber nmTooMany qTooMany fileTooMany : Str}
    {bsBadNumber subBadNumber bsTooMany subTooMany : List Value}
    {snBadNumber snTooMany : List Str}
    {abBadNumber abTooMany : Bool}
    {colBadNumber colTooMany : Option Bool}
    {m0BadNumber m1BadNumber m2BadNumber m3BadNumber m5BadNumber m0TooMany m1TooMany m2TooMany m3TooMany m5TooMany : Option Value}
    
    (apis_whole : PySem.W.nsIn K mainGlobals "is_whole" = some (some (.ref fpis_whole)))
    (lpis_whole : K.lookup fpis_whole = some ⟨ocpis_whole, odpis_whole, .func (PySem.W.fnOf "is_whole" "is_whole" (defArgs s_is_whole) (defBody s_is_whole) (defScope s_is_whole) .none kVpis_whole dcpis_whole pmpis_whole anpis_whole cdpis_whole ctpis_whole), slpis_whole⟩)
    (cpis_whole : PySem.W.codeIn K cdpis_whole "is_whole" = true)
    (kpis_whole : PySem.W.keepIn K (.ref fpis_whole) = true)
    (apis_listed : PySem.W.nsIn K mainGlobals "is_listed" = some (some (.ref fpis_listed)))
    (lpis_listed : K.lookup fpis_listed = some ⟨ocpis_listed, odpis_listed, .func (PySem.W.fnOf "is_listed" "is_listed" (defArgs s_is_listed) (defBody s_is_listed) (defScope s_is_listed) .none kVpis_listed dcpis_listed pmpis_listed anpis_listed cdpis_listed ctpis_listed), slpis_listed⟩)
    (cpis_listed : PySem.W.codeIn K cdpis_listed "is_listed" = true)
    (kpis_listed : PySem.W.keepIn K (.ref fpis_listed) = true)
    (apis_time : PySem.W.nsIn K mainGlobals "is_time" = some (some (.ref fpis_time)))
    (lpis_time : K.lookup fpis_time = some ⟨ocpis_time, odpis_time, .func (PySem.W.fnOf "is_time" "is_time" (defArgs s_is_time) (defBody s_is_time) (defScope s_is_time) .none kVpis_time dcpis_time pmpis_time anpis_time cdpis_time ctpis_time), slpis_time⟩)
    (cpis_time : PySem.W.codeIn K cdpis_time "is_time" = true)
    (kpis_time : PySem.W.keepIn K (.ref fpis_time) = true)
    (apcheck_jobs : PySem.W.nsIn K mainGlobals "check_jobs" = some (some (.ref fpcheck_jobs)))
    (lpcheck_jobs : K.lookup fpcheck_jobs = some ⟨ocpcheck_jobs, odpcheck_jobs, .func (PySem.W.fnOf "check_jobs" "check_jobs" (defArgs s_check_jobs) (defBody s_check_jobs) (defScope s_check_jobs) .none kVpcheck_jobs dcpcheck_jobs pmpcheck_jobs anpcheck_jobs cdpcheck_jobs ctpcheck_jobs), slpcheck_jobs⟩)
    (cpcheck_jobs : PySem.W.codeIn K cdpcheck_jobs "check_jobs" = true)
    (kpcheck_jobs : PySem.W.keepIn K (.ref fpcheck_jobs) = true)
    (apcheck_place : PySem.W.nsIn K mainGlobals "check_place" = some (some (.ref fpcheck_place)))
    (lpcheck_place : K.lookup fpcheck_place = some ⟨ocpcheck_place, odpcheck_place, .func (PySem.W.fnOf "check_place" "check_place" (defArgs s_check_place) (defBody s_check_place) (defScope s_check_place) .none kVpcheck_place dcpcheck_place pmpcheck_place anpcheck_place cdpcheck_place ctpcheck_place), slpcheck_place⟩)
    (cpcheck_place : PySem.W.codeIn K cdpcheck_place "check_place" = true)
    (kpcheck_place : PySem.W.keepIn K (.ref fpcheck_place) = true)
    (apsettled : PySem.W.nsIn K mainGlobals "settled" = some (some (.ref fpsettled)))
    (lpsettled : K.lookup fpsettled = some ⟨ocpsettled, odpsettled, .func (PySem.W.fnOf "settled" "settled" (defArgs s_settled) (defBody s_settled) (defScope s_settled) .none kVpsettled dcpsettled pmpsettled anpsettled cdpsettled ctpsettled), slpsettled⟩)
    (cpsettled : PySem.W.codeIn K cdpsettled "settled" = true)
    (kpsettled : PySem.W.keepIn K (.ref fpsettled) = true)
    (apfirst_miss : PySem.W.nsIn K mainGlobals "first_miss" = some (some (.ref fpfirst_miss)))
    (lpfirst_miss : K.lookup fpfirst_miss = some ⟨ocpfirst_miss, odpfirst_miss, .func (PySem.W.fnOf "first_miss" "first_miss" (defArgs s_first_miss) (defBody s_first_miss) (defScope s_first_miss) .none kVpfirst_miss dcpfirst_miss pmpfirst_miss anpfirst_miss cdpfirst_miss ctpfirst_miss), slpfirst_miss⟩)
    (cpfirst_miss : PySem.W.codeIn K cdpfirst_miss "first_miss" = true)
    (kpfirst_miss : PySem.W.keepIn K (.ref fpfirst_miss) = true)
    (apjob_ends : PySem.W.nsIn K mainGlobals "job_ends" = some (some (.ref fpjob_ends)))
    (lpjob_ends : K.lookup fpjob_ends = some ⟨ocpjob_ends, odpjob_ends, .func (PySem.W.fnOf "job_ends" "job_ends" (defArgs s_job_ends) (defBody s_job_ends) (defScope s_job_ends) .none kVpjob_ends dcpjob_ends pmpjob_ends anpjob_ends cdpjob_ends ctpjob_ends), slpjob_ends⟩)
    (cpjob_ends : PySem.W.codeIn K cdpjob_ends "job_ends" = true)
    (kpjob_ends : PySem.W.keepIn K (.ref fpjob_ends) = true)
    (ap_rounded_up : PySem.W.nsIn K mainGlobals "_rounded_up" = some (some (.ref fp_rounded_up)))
    (lp_rounded_up : K.lookup fp_rounded_up = some ⟨ocp_rounded_up, odp_rounded_up, .func (PySem.W.fnOf "_rounded_up" "_rounded_up" (defArgs s__rounded_up) (defBody s__rounded_up) (defScope s__rounded_up) .none kVp_rounded_up dcp_rounded_up pmp_rounded_up anp_rounded_up cdp_rounded_up ctp_rounded_up), slp_rounded_up⟩)
    (cp_rounded_up : PySem.W.codeIn K cdp_rounded_up "_rounded_up" = true)
    (kp_rounded_up : PySem.W.keepIn K (.ref fp_rounded_up) = true)
    (ap_row : PySem.W.nsIn K mainGlobals "_row" = some (some (.ref fp_row)))
    (lp_row : K.lookup fp_row = some ⟨ocp_row, odp_row, .func (PySem.W.fnOf "_row" "_row" (defArgs s__row) (defBody s__row) (defScope s__row) .none kVp_row dcp_row pmp_row anp_row cdp_row ctp_row), slp_row⟩)
    (cp_row : PySem.W.codeIn K cdp_row "_row" = true)
    (kp_row : PySem.W.keepIn K (.ref fp_row) = true)
    (aprows_of_response : PySem.W.nsIn K mainGlobals "rows_of_response" = some (some (.ref fprows_of_response)))
    (lprows_of_response : K.lookup fprows_of_response = some ⟨ocprows_of_response, odprows_of_response, .func (PySem.W.fnOf "rows_of_response" "rows_of_response" (defArgs s_rows_of_response) (defBody s_rows_of_response) (defScope s_rows_of_response) .none kVprows_of_response dcprows_of_response pmprows_of_response anprows_of_response cdprows_of_response ctprows_of_response), slprows_of_response⟩)
    (cprows_of_response : PySem.W.codeIn K cdprows_of_response "rows_of_response" = true)
    (kprows_of_response : PySem.W.keepIn K (.ref fprows_of_response) = true)
    (apresponse : PySem.W.nsIn K mainGlobals "response" = some (some (.ref fpresponse)))
    (lpresponse : K.lookup fpresponse = some ⟨ocpresponse, odpresponse, .func (PySem.W.fnOf "response" "response" (defArgs s_response) (defBody s_response) (defScope s_response) .none kVpresponse dcpresponse pmpresponse anpresponse cdpresponse ctpresponse), slpresponse⟩)
    (cpresponse : PySem.W.codeIn K cdpresponse "response" = true)
    (kpresponse : PySem.W.keepIn K (.ref fpresponse) = true)
    (apnever_misses : PySem.W.nsIn K mainGlobals "never_misses" = some (some (.ref fpnever_misses)))
    (lpnever_misses : K.lookup fpnever_misses = some ⟨ocpnever_misses, odpnever_misses, .func (PySem.W.fnOf "never_misses" "never_misses" (defArgs s_never_misses) (defBody s_never_misses) (defScope s_never_misses) .none kVpnever_misses dcpnever_misses pmpnever_misses anpnever_misses cdpnever_misses ctpnever_misses), slpnever_misses⟩)
    (cpnever_misses : PySem.W.codeIn K cdpnever_misses "never_misses" = true)
    (kpnever_misses : PySem.W.keepIn K (.ref fpnever_misses) = true)
    (ap_law_numbers : PySem.W.nsIn K mainGlobals "_law_numbers" = some (some (.ref fp_law_numbers)))
    (lp_law_numbers : K.lookup fp_law_numbers = some ⟨ocp_law_numbers, odp_law_numbers, .func (PySem.W.fnOf "_law_numbers" "_law_numbers" (defArgs s__law_numbers) (defBody s__law_numbers) (defScope s__law_numbers) .none kVp_law_numbers dcp_law_numbers pmp_law_numbers anp_law_numbers cdp_law_numbers ctp_law_numbers), slp_law_numbers⟩)
    (cp_law_numbers : PySem.W.codeIn K cdp_law_numbers "_law_numbers" = true)
    (kp_law_numbers : PySem.W.keepIn K (.ref fp_law_numbers) = true)
    (ap_law_draw : PySem.W.nsIn K mainGlobals "_law_draw" = some (some (.ref fp_law_draw)))
    (lp_law_draw : K.lookup fp_law_draw = some ⟨ocp_law_draw, odp_law_draw, .func (PySem.W.fnOf "_law_draw" "_law_draw" (defArgs s__law_draw) (defBody s__law_draw) (defScope s__law_draw) .none kVp_law_draw dcp_law_draw pmp_law_draw anp_law_draw cdp_law_draw ctp_law_draw), slp_law_draw⟩)
    (cp_law_draw : PySem.W.codeIn K cdp_law_draw "_law_draw" = true)
    (kp_law_draw : PySem.W.keepIn K (.ref fp_law_draw) = true)
    (ap_law_int : PySem.W.nsIn K mainGlobals "_law_int" = some (some (.ref fp_law_int)))
    (lp_law_int : K.lookup fp_law_int = some ⟨ocp_law_int, odp_law_int, .func (PySem.W.fnOf "_law_int" "_law_int" (defArgs s__law_int) (defBody s__law_int) (defScope s__law_int) .none kVp_law_int dcp_law_int pmp_law_int anp_law_int cdp_law_int ctp_law_int), slp_law_int⟩)
    (cp_law_int : PySem.W.codeIn K cdp_law_int "_law_int" = true)
    (kp_law_int : PySem.W.keepIn K (.ref fp_law_int) = true)
    (ap_law_responses : PySem.W.nsIn K mainGlobals "_law_responses" = some (some (.ref fp_law_responses)))
    (lp_law_responses : K.lookup fp_law_responses = some ⟨ocp_law_responses, odp_law_responses, .func (PySem.W.fnOf "_law_responses" "_law_responses" (defArgs s__law_responses) (defBody s__law_responses) (defScope s__law_responses) .none kVp_law_responses dcp_law_responses pmp_law_responses anp_law_responses cdp_law_responses ctp_law_responses), slp_law_responses⟩)
    (cp_law_responses : PySem.W.codeIn K cdp_law_responses "_law_responses" = true)
    (kp_law_responses : PySem.W.keepIn K (.ref fp_law_responses) = true)
    (ap_law_common : PySem.W.nsIn K mainGlobals "_law_common" = some (some (.ref fp_law_common)))
    (lp_law_common : K.lookup fp_law_common = some ⟨ocp_law_common, odp_law_common, .func (PySem.W.fnOf "_law_common" "_law_common" (defArgs s__law_common) (defBody s__law_common) (defScope s__law_common) .none kVp_law_common dcp_law_common pmp_law_common anp_law_common cdp_law_common ctp_law_common), slp_law_common⟩)
    (cp_law_common : PySem.W.codeIn K cdp_law_common "_law_common" = true)
    (kp_law_common : PySem.W.keepIn K (.ref fp_law_common) = true)
    (ap_law_times : PySem.W.nsIn K mainGlobals "_law_times" = some (some (.ref fp_law_times)))
    (lp_law_times : K.lookup fp_law_times = some ⟨ocp_law_times, odp_law_times, .func (PySem.W.fnOf "_law_times" "_law_times" (defArgs s__law_times) (defBody s__law_times) (defScope s__law_times) .none kVp_law_times dcp_law_times pmp_law_times anp_law_times cdp_law_times ctp_law_times), slp_law_times⟩)
    (cp_law_times : PySem.W.codeIn K cdp_law_times "_law_times" = true)
    (kp_law_times : PySem.W.keepIn K (.ref fp_law_times) = true)
    (ap_law_offsets : PySem.W.nsIn K mainGlobals "_law_offsets" = some (some (.ref fp_law_offsets)))
    (lp_law_offsets : K.lookup fp_law_offsets = some ⟨ocp_law_offsets, odp_law_offsets, .func (PySem.W.fnOf "_law_offsets" "_law_offsets" (defArgs s__law_offsets) (defBody s__law_offsets) (defScope s__law_offsets) .none kVp_law_offsets dcp_law_offsets pmp_law_offsets anp_law_offsets cdp_law_offsets ctp_law_offsets), slp_law_offsets⟩)
    (cp_law_offsets : PySem.W.codeIn K cdp_law_offsets "_law_offsets" = true)
    (kp_law_offsets : PySem.W.keepIn K (.ref fp_law_offsets) = true)
    (ap_law_at : PySem.W.nsIn K mainGlobals "_law_at" = some (some (.ref fp_law_at)))
    (lp_law_at : K.lookup fp_law_at = some ⟨ocp_law_at, odp_law_at, .func (PySem.W.fnOf "_law_at" "_law_at" (defArgs s__law_at) (defBody s__law_at) (defScope s__law_at) .none kVp_law_at dcp_law_at pmp_law_at anp_law_at cdp_law_at ctp_law_at), slp_law_at⟩)
    (cp_law_at : PySem.W.codeIn K cdp_law_at "_law_at" = true)
    (kp_law_at : PySem.W.keepIn K (.ref fp_law_at) = true)
    (ap_law_rows_fit : PySem.W.nsIn K mainGlobals "_law_rows_fit" = some (some (.ref fp_law_rows_fit)))
    (lp_law_rows_fit : K.lookup fp_law_rows_fit = some ⟨ocp_law_rows_fit, odp_law_rows_fit, .func (PySem.W.fnOf "_law_rows_fit" "_law_rows_fit" (defArgs s__law_rows_fit) (defBody s__law_rows_fit) (defScope s__law_rows_fit) .none kVp_law_rows_fit dcp_law_rows_fit pmp_law_rows_fit anp_law_rows_fit cdp_law_rows_fit ctp_law_rows_fit), slp_law_rows_fit⟩)
    (cp_law_rows_fit : PySem.W.codeIn K cdp_law_rows_fit "_law_rows_fit" = true)
    (kp_law_rows_fit : PySem.W.keepIn K (.ref fp_law_rows_fit) = true)
    (ap_law_refused : PySem.W.nsIn K mainGlobals "_law_refused" = some (some (.ref fp_law_refused)))
    (lp_law_refused : K.lookup fp_law_refused = some ⟨ocp_law_refused, odp_law_refused, .func (PySem.W.fnOf "_law_refused" "_law_refused" (defArgs s__law_refused) (defBody s__law_refused) (defScope s__law_refused) .none kVp_law_refused dcp_law_refused pmp_law_refused anp_law_refused cdp_law_refused ctp_law_refused), slp_law_refused⟩)
    (cp_law_refused : PySem.W.codeIn K cdp_law_refused "_law_refused" = true)
    (kp_law_refused : PySem.W.keepIn K (.ref fp_law_refused) = true)
    (ap_law_refusals_fit : PySem.W.nsIn K mainGlobals "_law_refusals_fit" = some (some (.ref fp_law_refusals_fit)))
    (lp_law_refusals_fit : K.lookup fp_law_refusals_fit = some ⟨ocp_law_refusals_fit, odp_law_refusals_fit, .func (PySem.W.fnOf "_law_refusals_fit" "_law_refusals_fit" (defArgs s__law_refusals_fit) (defBody s__law_refusals_fit) (defScope s__law_refusals_fit) .none kVp_law_refusals_fit dcp_law_refusals_fit pmp_law_refusals_fit anp_law_refusals_fit cdp_law_refusals_fit ctp_law_refusals_fit), slp_law_refusals_fit⟩)
    (cp_law_refusals_fit : PySem.W.codeIn K cdp_law_refusals_fit "_law_refusals_fit" = true)
    (kp_law_refusals_fit : PySem.W.keepIn K (.ref fp_law_refusals_fit) = true)
    (ap_law_drawn_fits : PySem.W.nsIn K mainGlobals "_law_drawn_fits" = some (some (.ref fp_law_drawn_fits)))
    (lp_law_drawn_fits : K.lookup fp_law_drawn_fits = some ⟨ocp_law_drawn_fits, odp_law_drawn_fits, .func (PySem.W.fnOf "_law_drawn_fits" "_law_drawn_fits" (defArgs s__law_drawn_fits) (defBody s__law_drawn_fits) (defScope s__law_drawn_fits) .none kVp_law_drawn_fits dcp_law_drawn_fits pmp_law_drawn_fits anp_law_drawn_fits cdp_law_drawn_fits ctp_law_drawn_fits), slp_law_drawn_fits⟩)
    (cp_law_drawn_fits : PySem.W.codeIn K cdp_law_drawn_fits "_law_drawn_fits" = true)
    (kp_law_drawn_fits : PySem.W.keepIn K (.ref fp_law_drawn_fits) = true)
    (alaw : PySem.W.nsIn K mainGlobals "law" = some (some (.ref flaw)))
    (llaw : K.lookup flaw = some ⟨oclaw, odlaw, .func (PySem.W.fnOf "law" "law" (defArgs s_law) (defBody s_law) (defScope s_law) .none kVlaw dclaw pmlaw anlaw cdlaw ctlaw), sllaw⟩)
    (claw : PySem.W.codeIn K cdlaw "law" = true)
    (klaw : PySem.W.keepIn K (.ref flaw) = true)
    (zall : PySem.W.nsIn K mainGlobals "all" = some none)
    (zbool : PySem.W.nsIn K mainGlobals "bool" = some none)
    (zenumerate : PySem.W.nsIn K mainGlobals "enumerate" = some none)
    (zint : PySem.W.nsIn K mainGlobals "int" = some none)
    (zisinstance : PySem.W.nsIn K mainGlobals "isinstance" = some none)
    (zlen : PySem.W.nsIn K mainGlobals "len" = some none)
    (zlist : PySem.W.nsIn K mainGlobals "list" = some none)
    (zmax : PySem.W.nsIn K mainGlobals "max" = some none)
    (zmin : PySem.W.nsIn K mainGlobals "min" = some none)
    (zrange : PySem.W.nsIn K mainGlobals "range" = some none)
    (zstr : PySem.W.nsIn K mainGlobals "str" = some none)
    (zsum : PySem.W.nsIn K mainGlobals "sum" = some none)
    (zsuper : PySem.W.nsIn K mainGlobals "super" = some none)
    (ztuple : PySem.W.nsIn K mainGlobals "tuple" = some none)
    (imlcm : PySem.W.nsIn K mainGlobals "lcm" = some (some (.builtin "math.lcm")))
    (gARungsError : PySem.W.nsIn K mainGlobals "RungsError" = some (some (.ref ARungsError)))
    (gxBadNumber : PySem.W.nsIn K mainGlobals "BadNumber" = some (some (.ref CBadNumber)))
    (xlBadNumber : K.lookup CBadNumber = some (excClassObj nmBadNumber qBadNumber CBadNumber NBadNumber bsBadNumber [.ref ARungsError, .type "ValueError", .type "Exception", .type "BaseException", .type "object"] true snBadNumber subBadNumber abBadNumber colBadNumber ddBadNumber m0BadNumber m1BadNumber m2BadNumber m3BadNumber m5BadNumber "ValueError.__new__"))
    (saBadNumber : PySem.W.findIn K (.ref CBadNumber) "__setattr__" = some (some (.builtin "object.__setattr__")))
    (gaBadNumber : PySem.W.findIn K (.ref CBadNumber) "__getattribute__" = some (some (.builtin "BaseException.__getattribute__")))
    (ggBadNumber : PySem.W.findIn K (.ref CBadNumber) "__getattr__" = some none)
    (ebBadNumber : PySem.W.subIn K (.ref CBadNumber) (.type "BaseException") = some true)
    (tyBadNumber : PySem.W.typeIn K (.ref CBadNumber) = some (.type "type"))
    (kcBadNumber : PySem.W.keepIn K (.ref CBadNumber) = true)
    (hdBadNumber : PySem.W.hasDictIn K CBadNumber = true)
    (icBadNumber : PySem.W.isClsIn K CBadNumber = true)
    (inBadNumber : PySem.W.findIn K (.ref CBadNumber) "__init__" = some (some (.ref iBadNumber)))
    (tiBadNumber : PySem.W.typeIn K (.ref iBadNumber) = some (.type "function"))
    (liBadNumber : K.lookup iBadNumber = some ⟨oiBadNumber, diBadNumber, .func (PySem.W.fnX "__init__" "BadNumber.__init__" (defArgs s_BadNumber_init) (defBody s_BadNumber_init) (defScope s_BadNumber_init) [("__class__", ccBadNumber)] .none kViBadNumber dciBadNumber pmiBadNumber aniBadNumber (.ref cdaBadNumber) ctiBadNumber), sliBadNumber⟩)
    (ciBadNumber : PySem.W.codeIn K (.ref cdaBadNumber) "BadNumber.__init__" = true)
    (ldBadNumber : K.lookup cdaBadNumber = some ⟨cclBadNumber, cddBadNumber, .fields vsBadNumber, ccsBadNumber⟩)
    (vfBadNumber : vsBadNumber[2]? = some (.str fileBadNumber tfBadNumber))
    (hfBadNumber : ((P.main.file : Str) == fileBadNumber) = true)
    (lcBadNumber : K.lookup ccBadNumber = some ⟨clBadNumber, cldBadNumber, .cell (some (.ref CBadNumber)), cslBadNumber⟩)
    (suBadNumber : PySem.W.ks_superIn K CBadNumber CBadNumber "__init__" = some (some (.builtin "ValueError.__init__")))
    (veBadNumber : PySem.W.subIn K (.ref CBadNumber) (.type "ValueError") = some true)
    (mrBadNumber : PySem.W.mroIn K CBadNumber (.ref CBadNumber) = some true)
    (nwordBadNumber : PySem.W.findIn K (.ref CBadNumber) "word" = some none)
    (gxTooMany : PySem.W.nsIn K mainGlobals "TooMany" = some (some (.ref CTooMany)))
    (xlTooMany : K.lookup CTooMany = some (excClassObj nmTooMany qTooMany CTooMany NTooMany bsTooMany [.ref ARungsError, .type "ValueError", .type "Exception", .type "BaseException", .type "object"] true snTooMany subTooMany abTooMany colTooMany ddTooMany m0TooMany m1TooMany m2TooMany m3TooMany m5TooMany "ValueError.__new__"))
    (saTooMany : PySem.W.findIn K (.ref CTooMany) "__setattr__" = some (some (.builtin "object.__setattr__")))
    (gaTooMany : PySem.W.findIn K (.ref CTooMany) "__getattribute__" = some (some (.builtin "BaseException.__getattribute__")))
    (ggTooMany : PySem.W.findIn K (.ref CTooMany) "__getattr__" = some none)
    (ebTooMany : PySem.W.subIn K (.ref CTooMany) (.type "BaseException") = some true)
    (tyTooMany : PySem.W.typeIn K (.ref CTooMany) = some (.type "type"))
    (kcTooMany : PySem.W.keepIn K (.ref CTooMany) = true)
    (hdTooMany : PySem.W.hasDictIn K CTooMany = true)
    (icTooMany : PySem.W.isClsIn K CTooMany = true)
    (inTooMany : PySem.W.findIn K (.ref CTooMany) "__init__" = some (some (.ref iTooMany)))
    (tiTooMany : PySem.W.typeIn K (.ref iTooMany) = some (.type "function"))
    (liTooMany : K.lookup iTooMany = some ⟨oiTooMany, diTooMany, .func (PySem.W.fnX "__init__" "TooMany.__init__" (defArgs s_TooMany_init) (defBody s_TooMany_init) (defScope s_TooMany_init) [("__class__", ccTooMany)] .none kViTooMany dciTooMany pmiTooMany aniTooMany (.ref cdaTooMany) ctiTooMany), sliTooMany⟩)
    (ciTooMany : PySem.W.codeIn K (.ref cdaTooMany) "TooMany.__init__" = true)
    (ldTooMany : K.lookup cdaTooMany = some ⟨cclTooMany, cddTooMany, .fields vsTooMany, ccsTooMany⟩)
    (vfTooMany : vsTooMany[2]? = some (.str fileTooMany tfTooMany))
    (hfTooMany : ((P.main.file : Str) == fileTooMany) = true)
    (lcTooMany : K.lookup ccTooMany = some ⟨clTooMany, cldTooMany, .cell (some (.ref CTooMany)), cslTooMany⟩)
    (suTooMany : PySem.W.ks_superIn K CTooMany CTooMany "__init__" = some (some (.builtin "ValueError.__init__")))
    (veTooMany : PySem.W.subIn K (.ref CTooMany) (.type "ValueError") = some true)
    (mrTooMany : PySem.W.mroIn K CTooMany (.ref CTooMany) = some true)
    (nlimitTooMany : PySem.W.findIn K (.ref CTooMany) "limit" = some none)
    (kgClock : PySem.W.nsIn K mainGlobals "Clock" = some (some (.ref KClock)))
    (kpgClock : PySem.W.plainGet K KClock Str.empty = true)
    (khdClock : PySem.W.hasDictIn K KClock = true)
    (kpoClock : PySem.W.plainOver K KClock = true)
    (ksaClock : PySem.W.findIn K (.ref KClock) "__setattr__" = some (some (.builtin "object.__setattr__")))
    (kmkClock : PySem.W.makesIn K KClock = true)
    (kkcClock : PySem.W.keepIn K (.ref KClock) = true)
    (knClockjobs : PySem.W.findIn K (.ref KClock) "jobs" = some none)
    (knClocktick : PySem.W.findIn K (.ref KClock) "tick" = some none)
    (knClockleft : PySem.W.findIn K (.ref KClock) "left" = some none)
    (knClockmissed : PySem.W.findIn K (.ref KClock) "missed" = some none)
    (maClock_init : PySem.W.findIn K (.ref KClock) "__init__" = some (some (.ref gClock_init)))
    (miClock_init : PySem.W.isFn K (.ref gClock_init) = true)
    (mlClock_init : K.lookup gClock_init = some ⟨ocClock_init, odClock_init, .func (PySem.W.fnOf "__init__" "Clock.__init__" (defArgs s_Clock_init) (defBody s_Clock_init) (defScope s_Clock_init) .none kVClock_init dcClock_init pmClock_init anClock_init cdClock_init ctClock_init), slClock_init⟩)
    (mcClock_init : PySem.W.codeIn K cdClock_init "Clock.__init__" = true)
    (mkClock_init : PySem.W.keepIn K (.ref gClock_init) = true)
    (maClock_run_tick : PySem.W.findIn K (.ref KClock) "run_tick" = some (some (.ref gClock_run_tick)))
    (miClock_run_tick : PySem.W.isFn K (.ref gClock_run_tick) = true)
    (mlClock_run_tick : K.lookup gClock_run_tick = some ⟨ocClock_run_tick, odClock_run_tick, .func (PySem.W.fnOf "run_tick" "Clock.run_tick" (defArgs s_Clock_run_tick) (defBody s_Clock_run_tick) (defScope s_Clock_run_tick) .none kVClock_run_tick dcClock_run_tick pmClock_run_tick anClock_run_tick cdClock_run_tick ctClock_run_tick), slClock_run_tick⟩)
    (mcClock_run_tick : PySem.W.codeIn K cdClock_run_tick "Clock.run_tick" = true)
    (mkClock_run_tick : PySem.W.keepIn K (.ref gClock_run_tick) = true)
    (opq : PySem.W.nsIn K cStatics "thirdparty.any" = some none)
    (sBadNumberBadNumber : PySem.W.subIn K (.ref CBadNumber) (.ref CBadNumber) = some true)
    (sBadNumberTooMany : PySem.W.subIn K (.ref CBadNumber) (.ref CTooMany) = some false)
    (sTooManyBadNumber : PySem.W.subIn K (.ref CTooMany) (.ref CBadNumber) = some false)
    (sTooManyTooMany : PySem.W.subIn K (.ref CTooMany) (.ref CTooMany) = some true)
    (top : (P.main.scope.names.lookup ("super" : Str)).isSome = false) :
    ∃ fd : FuncData, (∀ (s : Shared) (v : Value), BindsTo s fd ⟨[v], []⟩ [("script", v)]) ∧ ∀ base : Heap, K.In base → base.Ns mainGlobals mg → FnOk P w K mg base (CX P w) 7 fa fd ["script"] (spLaw K) := by
  have e := hfa.symm.trans (PySem.W.mg_of X G alaw)
  cases e
  have Fpis_whole := fun_mk (st := s_is_whole) lpis_whole cpis_whole kpis_whole
  have bpis_whole := Fpis_whole.binds (ps := ["value", "least", "most"]) fun _ _ _ _ _ _ us hl => match us, hl with | [_, _, _], _ => rfl
  have Fpis_listed := fun_mk (st := s_is_listed) lpis_listed cpis_listed kpis_listed
  have bpis_listed := Fpis_listed.binds (ps := ["value"]) fun _ _ _ _ _ _ us hl => match us, hl with | [_], _ => rfl
  have Fpis_time := fun_mk (st := s_is_time) lpis_time cpis_time kpis_time
  have bpis_time := Fpis_time.binds (ps := ["period", "offset", "most"]) fun _ _ _ _ _ _ us hl => match us, hl with | [_, _, _], _ => rfl
  have Fpcheck_jobs := fun_mk (st := s_check_jobs) lpcheck_jobs cpcheck_jobs kpcheck_jobs
  have bpcheck_jobs := Fpcheck_jobs.binds (ps := ["jobs"]) fun _ _ _ _ _ _ us hl => match us, hl with | [_], _ => rfl
  have Fpcheck_place := fun_mk (st := s_check_place) lpcheck_place cpcheck_place kpcheck_place
  have bpcheck_place := Fpcheck_place.binds (ps := ["jobs", "place"]) fun _ _ _ _ _ _ us hl => match us, hl with | [_, _], _ => rfl
  have Fpsettled := fun_mk (st := s_settled) lpsettled cpsettled kpsettled
  have bpsettled := Fpsettled.binds (ps := ["jobs"]) fun _ _ _ _ _ _ us hl => match us, hl with | [_], _ => rfl
  have Fpfirst_miss := fun_mk (st := s_first_miss) lpfirst_miss cpfirst_miss kpfirst_miss
  have bpfirst_miss := Fpfirst_miss.binds (ps := ["jobs"]) fun _ _ _ _ _ _ us hl => match us, hl with | [_], _ => rfl
  have Fpjob_ends := fun_mk (st := s_job_ends) lpjob_ends cpjob_ends kpjob_ends
  have bpjob_ends := Fpjob_ends.binds (ps := ["jobs", "place", "many"]) fun _ _ _ _ _ _ us hl => match us, hl with | [_, _, _], _ => rfl
  have Fp_rounded_up := fun_mk (st := s__rounded_up) lp_rounded_up cp_rounded_up kp_rounded_up
  have bp_rounded_up := Fp_rounded_up.binds (ps := ["number", "other"]) fun _ _ _ _ _ _ us hl => match us, hl with | [_, _], _ => rfl
  have Fp_row := fun_mk (st := s__row) lp_row cp_row kp_row
  have bp_row := Fp_row.binds (ps := ["jobs", "place"]) fun _ _ _ _ _ _ us hl => match us, hl with | [_, _], _ => rfl
  have Fprows_of_response := fun_mk (st := s_rows_of_response) lprows_of_response cprows_of_response kprows_of_response
  have bprows_of_response := Fprows_of_response.binds (ps := ["jobs", "place"]) fun _ _ _ _ _ _ us hl => match us, hl with | [_, _], _ => rfl
  have Fpresponse := fun_mk (st := s_response) lpresponse cpresponse kpresponse
  have bpresponse := Fpresponse.binds (ps := ["jobs", "place"]) fun _ _ _ _ _ _ us hl => match us, hl with | [_, _], _ => rfl
  have Fpnever_misses := fun_mk (st := s_never_misses) lpnever_misses cpnever_misses kpnever_misses
  have bpnever_misses := Fpnever_misses.binds (ps := ["jobs"]) fun _ _ _ _ _ _ us hl => match us, hl with | [_], _ => rfl
  have Fp_law_numbers := fun_mk (st := s__law_numbers) lp_law_numbers cp_law_numbers kp_law_numbers
  have bp_law_numbers := Fp_law_numbers.binds (ps := ["script"]) fun _ _ _ _ _ _ us hl => match us, hl with | [_], _ => rfl
  have Fp_law_draw := fun_mk (st := s__law_draw) lp_law_draw cp_law_draw kp_law_draw
  have bp_law_draw := Fp_law_draw.binds (ps := ["numbers", "many"]) fun _ _ _ _ _ _ us hl => match us, hl with | [_, _], _ => rfl
  have Fp_law_int := fun_mk (st := s__law_int) lp_law_int cp_law_int kp_law_int
  have bp_law_int := Fp_law_int.binds (ps := ["value"]) fun _ _ _ _ _ _ us hl => match us, hl with | [_], _ => rfl
  have Fp_law_responses := fun_mk (st := s__law_responses) lp_law_responses cp_law_responses kp_law_responses
  have bp_law_responses := Fp_law_responses.binds (ps := ["jobs", "place"]) fun _ _ _ _ _ _ us hl => match us, hl with | [_, _], _ => rfl
  have Fp_law_common := fun_mk (st := s__law_common) lp_law_common cp_law_common kp_law_common
  have bp_law_common := Fp_law_common.binds (ps := ["jobs"]) fun _ _ _ _ _ _ us hl => match us, hl with | [_], _ => rfl
  have Fp_law_times := fun_mk (st := s__law_times) lp_law_times cp_law_times kp_law_times
  have bp_law_times := Fp_law_times.binds (ps := ["jobs"]) fun _ _ _ _ _ _ us hl => match us, hl with | [_], _ => rfl
  have Fp_law_offsets := fun_mk (st := s__law_offsets) lp_law_offsets cp_law_offsets kp_law_offsets
  have bp_law_offsets := Fp_law_offsets.binds (ps := ["jobs"]) fun _ _ _ _ _ _ us hl => match us, hl with | [_], _ => rfl
  have Fp_law_at := fun_mk (st := s__law_at) lp_law_at cp_law_at kp_law_at
  have bp_law_at := Fp_law_at.binds (ps := ["jobs", "offsets"]) fun _ _ _ _ _ _ us hl => match us, hl with | [_, _], _ => rfl
  have Fp_law_rows_fit := fun_mk (st := s__law_rows_fit) lp_law_rows_fit cp_law_rows_fit kp_law_rows_fit
  have bp_law_rows_fit := Fp_law_rows_fit.binds (ps := ["jobs"]) fun _ _ _ _ _ _ us hl => match us, hl with | [_], _ => rfl
  have Fp_law_refused := fun_mk (st := s__law_refused) lp_law_refused cp_law_refused kp_law_refused
  have bp_law_refused := Fp_law_refused.binds (ps := ["word", "jobs"]) fun _ _ _ _ _ _ us hl => match us, hl with | [_, _], _ => rfl
  have Fp_law_refusals_fit := fun_mk (st := s__law_refusals_fit) lp_law_refusals_fit cp_law_refusals_fit kp_law_refusals_fit
  have bp_law_refusals_fit := Fp_law_refusals_fit.binds (ps := ["numbers", "jobs"]) fun _ _ _ _ _ _ us hl => match us, hl with | [_, _], _ => rfl
  have Fp_law_drawn_fits := fun_mk (st := s__law_drawn_fits) lp_law_drawn_fits cp_law_drawn_fits kp_law_drawn_fits
  have bp_law_drawn_fits := Fp_law_drawn_fits.binds (ps := ["jobs", "asked"]) fun _ _ _ _ _ _ us hl => match us, hl with | [_, _], _ => rfl
  have Flaw := fun_mk (st := s_law) llaw claw klaw
  have B : Bl mg := { all := PySem.W.mg_none_of X G zall, bool := PySem.W.mg_none_of X G zbool, enumerate := PySem.W.mg_none_of X G zenumerate, int := PySem.W.mg_none_of X G zint, isinstance := PySem.W.mg_none_of X G zisinstance, len := PySem.W.mg_none_of X G zlen, list := PySem.W.mg_none_of X G zlist, max := PySem.W.mg_none_of X G zmax, min := PySem.W.mg_none_of X G zmin, range := PySem.W.mg_none_of X G zrange, str := PySem.W.mg_none_of X G zstr, sum := PySem.W.mg_none_of X G zsum, tuple := PySem.W.mg_none_of X G ztuple }
  have OBadNumber : OexC K CBadNumber := { cls := ⟨_, _, _, _, _, _, _, _, _, _, _, _, _, _, _, xlBadNumber, rfl⟩, sa := saBadNumber, exC := ebBadNumber, tyC := tyBadNumber, kC := kcBadNumber }
  have SBadNumber : Sup P K mg CBadNumber iBadNumber "BadNumber.__init__" s_BadNumber_init (PySem.W.fnX "__init__" "BadNumber.__init__" (defArgs s_BadNumber_init) (defBody s_BadNumber_init) (defScope s_BadNumber_init) [("__class__", ccBadNumber)] .none kViBadNumber dciBadNumber pmiBadNumber aniBadNumber (.ref cdaBadNumber) ctiBadNumber) :=
    { O := OBadNumber, iC := inBadNumber, tI := tiBadNumber, ex := ⟨_, _, _, _, _, _, _, _, _, _, _, _, _, _, _, _, _, _, _, rfl, liBadNumber, ciBadNumber, ldBadNumber, vfBadNumber, hfBadNumber, lcBadNumber⟩, sup := suBadNumber, opq := opq, sVE := veBadNumber, mro := mrBadNumber, sG := PySem.W.mg_none_of X G zsuper, top := top }
  have bxBadNumber : Binds K (PySem.W.fnX "__init__" "BadNumber.__init__" (defArgs s_BadNumber_init) (defBody s_BadNumber_init) (defScope s_BadNumber_init) [("__class__", ccBadNumber)] .none kViBadNumber dciBadNumber pmiBadNumber aniBadNumber (.ref cdaBadNumber) ctiBadNumber) ["self", "word"] [] := fun s us _ hl => by
    rw [List.append_nil] at hl ⊢
    exact match us, hl with | [_, _], _ => .of_eq rfl
  have nfBadNumber : ∀ y ∈ (["word"] : List Str), PySem.W.findIn K (.ref CBadNumber) y = some none := by
    intro y hy
    simp only [List.mem_cons, List.not_mem_nil, or_false] at hy
    subst hy
    exact nwordBadNumber
  let EBadNumber : Ke P K mg "BadNumber" "BadNumber.__init__" s_BadNumber_init ["self", "word"] ["word"] := { C := CBadNumber, f := iBadNumber, fd := _, T := SBadNumber, b := bxBadNumber, nf := nfBadNumber, g := PySem.W.mg_of X G gxBadNumber, X := ⟨gaBadNumber, ggBadNumber, ebBadNumber, hdBadNumber⟩ }
  have OTooMany : OexC K CTooMany := { cls := ⟨_, _, _, _, _, _, _, _, _, _, _, _, _, _, _, xlTooMany, rfl⟩, sa := saTooMany, exC := ebTooMany, tyC := tyTooMany, kC := kcTooMany }
  have STooMany : Sup P K mg CTooMany iTooMany "TooMany.__init__" s_TooMany_init (PySem.W.fnX "__init__" "TooMany.__init__" (defArgs s_TooMany_init) (defBody s_TooMany_init) (defScope s_TooMany_init) [("__class__", ccTooMany)] .none kViTooMany dciTooMany pmiTooMany aniTooMany (.ref cdaTooMany) ctiTooMany) :=
    { O := OTooMany, iC := inTooMany, tI := tiTooMany, ex := ⟨_, _, _, _, _, _, _, _, _, _, _, _, _, _, _, _, _, _, _, rfl, liTooMany, ciTooMany, ldTooMany, vfTooMany, hfTooMany, lcTooMany⟩, sup := suTooMany, opq := opq, sVE := veTooMany, mro := mrTooMany, sG := PySem.W.mg_none_of X G zsuper, top := top }
  have bxTooMany : Binds K (PySem.W.fnX "__init__" "TooMany.__init__" (defArgs s_TooMany_init) (defBody s_TooMany_init) (defScope s_TooMany_init) [("__class__", ccTooMany)] .none kViTooMany dciTooMany pmiTooMany aniTooMany (.ref cdaTooMany) ctiTooMany) ["self", "limit"] [] := fun s us _ hl => by
    rw [List.append_nil] at hl ⊢
    exact match us, hl with | [_, _], _ => .of_eq rfl
  have nfTooMany : ∀ y ∈ (["limit"] : List Str), PySem.W.findIn K (.ref CTooMany) y = some none := by
    intro y hy
    simp only [List.mem_cons, List.not_mem_nil, or_false] at hy
    subst hy
    exact nlimitTooMany
  let ETooMany : Ke P K mg "TooMany" "TooMany.__init__" s_TooMany_init ["self", "limit"] ["limit"] := { C := CTooMany, f := iTooMany, fd := _, T := STooMany, b := bxTooMany, nf := nfTooMany, g := PySem.W.mg_of X G gxTooMany, X := ⟨gaTooMany, ggTooMany, ebTooMany, hdTooMany⟩ }
  have FClock_init := fun_mk (st := s_Clock_init) mlClock_init mcClock_init mkClock_init
  have bClock_init := FClock_init.binds (ps := ["self", "jobs"]) fun _ _ _ _ _ _ us hl => match us, hl with | [_, _], _ => rfl
  have FClock_run_tick := fun_mk (st := s_Clock_run_tick) mlClock_run_tick mcClock_run_tick mkClock_run_tick
  have bClock_run_tick := FClock_run_tick.binds (ps := ["self"]) fun _ _ _ _ _ _ us hl => match us, hl with | [_], _ => rfl
  have nfClock : ∀ y ∈ (["jobs", "tick", "left", "missed"] : List Str), NoAttr K KClock y := by
    intro y hy
    simp only [List.mem_cons, List.not_mem_nil, or_false] at hy
    rcases hy with rfl | rfl | rfl | rfl
    · exact knClockjobs
    · exact knClocktick
    · exact knClockleft
    · exact knClockmissed
  let EClock : Kc K mg "Clock" "Clock.__init__" s_Clock_init ["self", "jobs"] ["jobs", "tick", "left", "missed"] := { C := KClock, f := gClock_init, fd := _, F := FClock_init, b := bClock_init, M := ⟨kmkClock, maClock_init, miClock_init, kkcClock⟩, cl := ⟨kpgClock, khdClock, kpoClock, ksaClock⟩, nf := nfClock, g := PySem.W.mg_of X G kgClock }
  let PR : Pr P K mg := { B := B, BadNumber := EBadNumber, TooMany := ETooMany, x_BadNumber_BadNumber := exm_of ebBadNumber icBadNumber tyBadNumber sBadNumberBadNumber, x_BadNumber_TooMany := exm_of ebTooMany icTooMany tyTooMany sBadNumberTooMany, x_TooMany_BadNumber := exm_of ebBadNumber icBadNumber tyBadNumber sTooManyBadNumber, x_TooMany_TooMany := exm_of ebTooMany icTooMany tyTooMany sTooManyTooMany, g_lcm := PySem.W.mg_of X G imlcm, Clock := EClock, Clock_run_tick := { f := gClock_run_tick, fd := _, F := FClock_run_tick, b := bClock_run_tick, M := ⟨maClock_run_tick, miClock_run_tick, mkClock_run_tick⟩ }, is_whole := { f := fpis_whole, fd := _, F := Fpis_whole, b := bpis_whole, g := PySem.W.mg_of X G apis_whole }, is_listed := { f := fpis_listed, fd := _, F := Fpis_listed, b := bpis_listed, g := PySem.W.mg_of X G apis_listed }, is_time := { f := fpis_time, fd := _, F := Fpis_time, b := bpis_time, g := PySem.W.mg_of X G apis_time }, check_jobs := { f := fpcheck_jobs, fd := _, F := Fpcheck_jobs, b := bpcheck_jobs, g := PySem.W.mg_of X G apcheck_jobs }, check_place := { f := fpcheck_place, fd := _, F := Fpcheck_place, b := bpcheck_place, g := PySem.W.mg_of X G apcheck_place }, settled := { f := fpsettled, fd := _, F := Fpsettled, b := bpsettled, g := PySem.W.mg_of X G apsettled }, first_miss := { f := fpfirst_miss, fd := _, F := Fpfirst_miss, b := bpfirst_miss, g := PySem.W.mg_of X G apfirst_miss }, job_ends := { f := fpjob_ends, fd := _, F := Fpjob_ends, b := bpjob_ends, g := PySem.W.mg_of X G apjob_ends }, _rounded_up := { f := fp_rounded_up, fd := _, F := Fp_rounded_up, b := bp_rounded_up, g := PySem.W.mg_of X G ap_rounded_up }, _row := { f := fp_row, fd := _, F := Fp_row, b := bp_row, g := PySem.W.mg_of X G ap_row }, rows_of_response := { f := fprows_of_response, fd := _, F := Fprows_of_response, b := bprows_of_response, g := PySem.W.mg_of X G aprows_of_response }, response := { f := fpresponse, fd := _, F := Fpresponse, b := bpresponse, g := PySem.W.mg_of X G apresponse }, never_misses := { f := fpnever_misses, fd := _, F := Fpnever_misses, b := bpnever_misses, g := PySem.W.mg_of X G apnever_misses }, _law_numbers := { f := fp_law_numbers, fd := _, F := Fp_law_numbers, b := bp_law_numbers, g := PySem.W.mg_of X G ap_law_numbers }, _law_draw := { f := fp_law_draw, fd := _, F := Fp_law_draw, b := bp_law_draw, g := PySem.W.mg_of X G ap_law_draw }, _law_int := { f := fp_law_int, fd := _, F := Fp_law_int, b := bp_law_int, g := PySem.W.mg_of X G ap_law_int }, _law_responses := { f := fp_law_responses, fd := _, F := Fp_law_responses, b := bp_law_responses, g := PySem.W.mg_of X G ap_law_responses }, _law_common := { f := fp_law_common, fd := _, F := Fp_law_common, b := bp_law_common, g := PySem.W.mg_of X G ap_law_common }, _law_times := { f := fp_law_times, fd := _, F := Fp_law_times, b := bp_law_times, g := PySem.W.mg_of X G ap_law_times }, _law_offsets := { f := fp_law_offsets, fd := _, F := Fp_law_offsets, b := bp_law_offsets, g := PySem.W.mg_of X G ap_law_offsets }, _law_at := { f := fp_law_at, fd := _, F := Fp_law_at, b := bp_law_at, g := PySem.W.mg_of X G ap_law_at }, _law_rows_fit := { f := fp_law_rows_fit, fd := _, F := Fp_law_rows_fit, b := bp_law_rows_fit, g := PySem.W.mg_of X G ap_law_rows_fit }, _law_refused := { f := fp_law_refused, fd := _, F := Fp_law_refused, b := bp_law_refused, g := PySem.W.mg_of X G ap_law_refused }, _law_refusals_fit := { f := fp_law_refusals_fit, fd := _, F := Fp_law_refusals_fit, b := bp_law_refusals_fit, g := PySem.W.mg_of X G ap_law_refusals_fit }, _law_drawn_fits := { f := fp_law_drawn_fits, fd := _, F := Fp_law_drawn_fits, b := bp_law_drawn_fits, g := PySem.W.mg_of X G ap_law_drawn_fits } }
  exact ⟨_, fun s v => .of_eq rfl, fun base _ _ => ok_law PR Flaw⟩
end K7

set_option Elab.async false
set_option linter.all false
open PySem PySem.W PyProof.Rows
set_option maxRecDepth 100000
set_option maxHeartbeats 0 in
theorem PySem.Challenge.cw_guardrungs_k77_whole_worst_over_all_offs_holds : PySem.Challenge.rw_guardrungs_k77_whole_worst_over_all_offs.Holds := by
  w_on; o_law; k_head; (case hw => w_witness2)
  k_fill
  refine L2.walk_of (l := PySem.Challenge.rw_guardrungs_k77_whole_worst_over_all_offs) (n := 63) (k := 7) (x := "script") (CX := fun w => L2.CX PySem.Challenge.rw_guardrungs_k77_whole_worst_over_all_offs.prog w) (sp := fun w => K7.spLaw _) rfl (by decide) rfl ⟨rfl, by decide, by decide⟩ (fun w h Y => PySem.W.kIn_of Y) ?F (fun _ _ a ns hl _ hS => ⟨a, ns, rfl, hS, hl, fun _ => rfl⟩) (fun _ _ _ _ _ h => by obtain ⟨_, _, _, _, _, _, _, _, _, _, _, _, z⟩ := h; exact z)
  case F =>
    intro w mg fa h KX G hmg
    refine' K7.all_mk KX G hmg ?apis_whole ?lpis_whole ?cpis_whole ?kpis_whole ?apis_listed ?lpis_listed ?cpis_listed ?kpis_listed ?apis_time ?lpis_time ?cpis_time ?kpis_time ?apcheck_jobs ?lpcheck_jobs ?cpcheck_jobs ?kpcheck_jobs ?apcheck_place ?lpcheck_place ?cpcheck_place ?kpcheck_place ?apsettled ?lpsettled ?cpsettled ?kpsettled ?apfirst_miss ?lpfirst_miss ?cpfirst_miss ?kpfirst_miss ?apjob_ends ?lpjob_ends ?cpjob_ends ?kpjob_ends ?ap_rounded_up ?lp_rounded_up ?cp_rounded_up ?kp_rounded_up ?ap_row ?lp_row ?cp_row ?kp_row ?aprows_of_response ?lprows_of_response ?cprows_of_response ?kprows_of_response ?apresponse ?lpresponse ?cpresponse ?kpresponse ?apnever_misses ?lpnever_misses ?cpnever_misses ?kpnever_misses ?ap_law_numbers ?lp_law_numbers ?cp_law_numbers ?kp_law_numbers ?ap_law_draw ?lp_law_draw ?cp_law_draw ?kp_law_draw ?ap_law_int ?lp_law_int ?cp_law_int ?kp_law_int ?ap_law_responses ?lp_law_responses ?cp_law_responses ?kp_law_responses ?ap_law_common ?lp_law_common ?cp_law_common ?kp_law_common ?ap_law_times ?lp_law_times ?cp_law_times ?kp_law_times ?ap_law_offsets ?lp_law_offsets ?cp_law_offsets ?kp_law_offsets ?ap_law_at ?lp_law_at ?cp_law_at ?kp_law_at ?ap_law_rows_fit ?lp_law_rows_fit ?cp_law_rows_fit ?kp_law_rows_fit ?ap_law_refused ?lp_law_refused ?cp_law_refused ?kp_law_refused ?ap_law_refusals_fit ?lp_law_refusals_fit ?cp_law_refusals_fit ?kp_law_refusals_fit ?ap_law_drawn_fits ?lp_law_drawn_fits ?cp_law_drawn_fits ?kp_law_drawn_fits ?alaw ?llaw ?claw ?klaw ?zall ?zbool ?zenumerate ?zint ?zisinstance ?zlen ?zlist ?zmax ?zmin ?zrange ?zstr ?zsum ?zsuper ?ztuple ?imlcm ?gARungsError ?gxBadNumber ?xlBadNumber ?saBadNumber ?gaBadNumber ?ggBadNumber ?ebBadNumber ?tyBadNumber ?kcBadNumber ?hdBadNumber ?icBadNumber ?inBadNumber ?tiBadNumber ?liBadNumber ?ciBadNumber ?ldBadNumber ?vfBadNumber ?hfBadNumber ?lcBadNumber ?suBadNumber ?veBadNumber ?mrBadNumber ?nwordBadNumber ?gxTooMany ?xlTooMany ?saTooMany ?gaTooMany ?ggTooMany ?ebTooMany ?tyTooMany ?kcTooMany ?hdTooMany ?icTooMany ?inTooMany ?tiTooMany ?liTooMany ?ciTooMany ?ldTooMany ?vfTooMany ?hfTooMany ?lcTooMany ?suTooMany ?veTooMany ?mrTooMany ?nlimitTooMany ?kgClock ?kpgClock ?khdClock ?kpoClock ?ksaClock ?kmkClock ?kkcClock ?knClockjobs ?knClocktick ?knClockleft ?knClockmissed ?maClock_init ?miClock_init ?mlClock_init ?mcClock_init ?mkClock_init ?maClock_run_tick ?miClock_run_tick ?mlClock_run_tick ?mcClock_run_tick ?mkClock_run_tick ?opq ?sBadNumberBadNumber ?sBadNumberTooMany ?sTooManyBadNumber ?sTooManyTooMany ?top
    (case apis_whole => k_is)
    (case lpis_whole => k_is)
    (case cpis_whole => k_is)
    (case kpis_whole => k_is)
    (case apis_listed => k_is)
    (case lpis_listed => k_is)
    (case cpis_listed => k_is)
    (case kpis_listed => k_is)
    (case apis_time => k_is)
    (case lpis_time => k_is)
    (case cpis_time => k_is)
    (case kpis_time => k_is)
    (case apcheck_jobs => k_is)
    (case lpcheck_jobs => k_is)
    (case cpcheck_jobs => k_is)
    (case kpcheck_jobs => k_is)
    (case apcheck_place => k_is)
    (case lpcheck_place => k_is)
    (case cpcheck_place => k_is)
    (case kpcheck_place => k_is)
    (case apsettled => k_is)
    (case lpsettled => k_is)
    (case cpsettled => k_is)
    (case kpsettled => k_is)
    (case apfirst_miss => k_is)
    (case lpfirst_miss => k_is)
    (case cpfirst_miss => k_is)
    (case kpfirst_miss => k_is)
    (case apjob_ends => k_is)
    (case lpjob_ends => k_is)
    (case cpjob_ends => k_is)
    (case kpjob_ends => k_is)
    (case ap_rounded_up => k_is)
    (case lp_rounded_up => k_is)
    (case cp_rounded_up => k_is)
    (case kp_rounded_up => k_is)
    (case ap_row => k_is)
    (case lp_row => k_is)
    (case cp_row => k_is)
    (case kp_row => k_is)
    (case aprows_of_response => k_is)
    (case lprows_of_response => k_is)
    (case cprows_of_response => k_is)
    (case kprows_of_response => k_is)
    (case apresponse => k_is)
    (case lpresponse => k_is)
    (case cpresponse => k_is)
    (case kpresponse => k_is)
    (case apnever_misses => k_is)
    (case lpnever_misses => k_is)
    (case cpnever_misses => k_is)
    (case kpnever_misses => k_is)
    (case ap_law_numbers => k_is)
    (case lp_law_numbers => k_is)
    (case cp_law_numbers => k_is)
    (case kp_law_numbers => k_is)
    (case ap_law_draw => k_is)
    (case lp_law_draw => k_is)
    (case cp_law_draw => k_is)
    (case kp_law_draw => k_is)
    (case ap_law_int => k_is)
    (case lp_law_int => k_is)
    (case cp_law_int => k_is)
    (case kp_law_int => k_is)
    (case ap_law_responses => k_is)
    (case lp_law_responses => k_is)
    (case cp_law_responses => k_is)
    (case kp_law_responses => k_is)
    (case ap_law_common => k_is)
    (case lp_law_common => k_is)
    (case cp_law_common => k_is)
    (case kp_law_common => k_is)
    (case ap_law_times => k_is)
    (case lp_law_times => k_is)
    (case cp_law_times => k_is)
    (case kp_law_times => k_is)
    (case ap_law_offsets => k_is)
    (case lp_law_offsets => k_is)
    (case cp_law_offsets => k_is)
    (case kp_law_offsets => k_is)
    (case ap_law_at => k_is)
    (case lp_law_at => k_is)
    (case cp_law_at => k_is)
    (case kp_law_at => k_is)
    (case ap_law_rows_fit => k_is)
    (case lp_law_rows_fit => k_is)
    (case cp_law_rows_fit => k_is)
    (case kp_law_rows_fit => k_is)
    (case ap_law_refused => k_is)
    (case lp_law_refused => k_is)
    (case cp_law_refused => k_is)
    (case kp_law_refused => k_is)
    (case ap_law_refusals_fit => k_is)
    (case lp_law_refusals_fit => k_is)
    (case cp_law_refusals_fit => k_is)
    (case kp_law_refusals_fit => k_is)
    (case ap_law_drawn_fits => k_is)
    (case lp_law_drawn_fits => k_is)
    (case cp_law_drawn_fits => k_is)
    (case kp_law_drawn_fits => k_is)
    (case alaw => k_is)
    (case llaw => k_is)
    (case claw => k_is)
    (case klaw => k_is)
    (case zall => k_is)
    (case zbool => k_is)
    (case zenumerate => k_is)
    (case zint => k_is)
    (case zisinstance => k_is)
    (case zlen => k_is)
    (case zlist => k_is)
    (case zmax => k_is)
    (case zmin => k_is)
    (case zrange => k_is)
    (case zstr => k_is)
    (case zsum => k_is)
    (case zsuper => k_is)
    (case ztuple => k_is)
    (case imlcm => k_is)
    (case gARungsError => k_is)
    (case gxBadNumber => k_is)
    (case xlBadNumber => k_is)
    (case saBadNumber => k_is)
    (case gaBadNumber => k_is)
    (case ggBadNumber => k_is)
    (case ebBadNumber => k_is)
    (case tyBadNumber => k_is)
    (case kcBadNumber => k_is)
    (case hdBadNumber => k_is)
    (case icBadNumber => k_is)
    (case inBadNumber => k_is)
    (case tiBadNumber => k_is)
    (case liBadNumber => k_is)
    (case ciBadNumber => k_is)
    (case ldBadNumber => k_is)
    (case vfBadNumber => first | rfl | k_is)
    (case hfBadNumber => first | rfl | decide | k_is)
    (case lcBadNumber => k_is)
    (case suBadNumber => first | rfl | decide +kernel)
    (case veBadNumber => k_is)
    (case mrBadNumber => k_is)
    (case nwordBadNumber => k_is)
    (case gxTooMany => k_is)
    (case xlTooMany => k_is)
    (case saTooMany => k_is)
    (case gaTooMany => k_is)
    (case ggTooMany => k_is)
    (case ebTooMany => k_is)
    (case tyTooMany => k_is)
    (case kcTooMany => k_is)
    (case hdTooMany => k_is)
    (case icTooMany => k_is)
    (case inTooMany => k_is)
    (case tiTooMany => k_is)
    (case liTooMany => k_is)
    (case ciTooMany => k_is)
    (case ldTooMany => k_is)
    (case vfTooMany => first | rfl | k_is)
    (case hfTooMany => first | rfl | decide | k_is)
    (case lcTooMany => k_is)
    (case suTooMany => first | rfl | decide +kernel)
    (case veTooMany => k_is)
    (case mrTooMany => k_is)
    (case nlimitTooMany => k_is)
    (case kgClock => k_is)
    (case kpgClock => k_is)
    (case khdClock => k_is)
    (case kpoClock => k_is)
    (case ksaClock => k_is)
    (case kmkClock => k_is)
    (case kkcClock => k_is)
    (case knClockjobs => k_is)
    (case knClocktick => k_is)
    (case knClockleft => k_is)
    (case knClockmissed => k_is)
    (case maClock_init => k_is)
    (case miClock_init => k_is)
    (case mlClock_init => k_is)
    (case mcClock_init => k_is)
    (case mkClock_init => k_is)
    (case maClock_run_tick => k_is)
    (case miClock_run_tick => k_is)
    (case mlClock_run_tick => k_is)
    (case mcClock_run_tick => k_is)
    (case mkClock_run_tick => k_is)
    (case opq => k_is)
    (case sBadNumberBadNumber => k_is)
    (case sBadNumberTooMany => k_is)
    (case sTooManyBadNumber => k_is)
    (case sTooManyTooMany => k_is)
    (case top => first | rfl | decide)

