import PyProof.Rows.All
import Wide.All
import OpenK.AllK
import Wide.FinOn
import KE.KExcSuper
import HandS.Base
import HandS.Call
import HandS.List
import HandS.Ends
import HandS.Exc
import HandS.ExcOwn
import HandS.ExcInit
import HandS.Words
import HandS.Nested
import HandS.TryMany
import KE.GoesMore
import KE.GoesEnum
import HandS.Iter
import HandS.Sort
import HandS.SortInts
import HandS.TupMul
import HandS.TupAny
import PyProof.ListMulRoad
import HandS.CallSlots
import PySem.Challenge.RW_guardrungs_k24_rules
import HandS.ForMost
import HandS.ForExc
import HandS.IsInst
import HandS.Conv
import HandS.Zip
import HandS.DictComp
import HandS.SortRule
import HandS.ExcField
import HandS.FStr
import HandS.Deep
import HandS.TupLe
import HandS.TryOnly
import PyProof.P3Eq
set_option Elab.async false
set_option linter.all false
set_option maxRecDepth 100000
set_option maxHeartbeats 4000000
namespace GX
open PySem PySem.Spec PyProof.Rows L2 NdefX
/-- what the written part says of an own exception class whose __init__ goes over super -/
structure Sup (P : Program) (K : PySem.W.Frag) (mg : Str → Option Value) (C fI : Addr) (qual : Str) (st : Stmt) (fd : FuncData) : Prop where
  O : OexC K C
  iC : PySem.W.findIn K (.ref C) "__init__" = some (some (.ref fI))
  tI : PySem.W.typeIn K (.ref fI) = some (.type "function")
  ex : ∃ (oc : Value) (od : Option Addr) (kV doc pm ct : Value) (an : Option Addr) (osl : Array (Option Value)) (cc cda : Addr) (ccl cl : Value) (cdd cld : Option Addr) (vs : Array Value) (ccs csl : Array (Option Value)) (file : Str) (tf : Tok),
    fd = PySem.W.fnX "__init__" qual (defArgs st) (defBody st) (defScope st) [("__class__", cc)] .none kV doc pm an (.ref cda) ct ∧
    K.lookup fI = some ⟨oc, od, .func fd, osl⟩ ∧ PySem.W.codeIn K (.ref cda) qual = true ∧ K.lookup cda = some ⟨ccl, cdd, .fields vs, ccs⟩ ∧ vs[2]? = some (.str file tf) ∧ ((P.main.file : Str) == file) = true ∧
    K.lookup cc = some ⟨cl, cld, .cell (some (.ref C)), csl⟩
  sup : PySem.W.ks_superIn K C C "__init__" = some (some (.builtin "ValueError.__init__"))
  opq : PySem.W.nsIn K cStatics "thirdparty.any" = some none
  sVE : PySem.W.subIn K (.ref C) (.type "ValueError") = some true
  mro : PySem.W.mroIn K C (.ref C) = some true
  sG : mg "super" = none
  top : (P.main.scope.names.lookup ("super" : Str)).isSome = false
section
variable {X : Cx} {pins : List (Addr × Obj)} {σ : L2.St} {H : Hp} {s : Shared} {C a u : Addr}
/-- the built-in __init__ bound to the exception, called -/
theorem sup_call {A : Around} {E : Value → Shared → Prop} {us : List Value} {Q : Value → Shared → Prop} (T : OexC X.K C) (I : Inv X pins σ H s) (e : H a = some (exo a C none))
    (hu : s.heap.get? u = some (PySem.W.kxs_mw "ValueError.__init__" a)) (hl : us.length ≤ sizeLine) (h : ∀ s', Inv X pins σ H s' → Q .none s') : wpAny (model X.prog X.w) A (call (.ref u) us) Q E s := by
  obtain ⟨nm, q, N, bs, bm, sn, sub, ab, col, dd, k0, k1, k2, k3, k5, hC, hbm⟩ := T.cls
  have hC' := I.kIn _ _ hC
  obtain ⟨t1, ho⟩ := exo_at I.hok e
  obtain ⟨hp, g, d, t, os⟩ := s
  refine wpAny_call (codeAny_of_tree ?_)
  show wpAny _ A.in1 (callAny (.ref u) ⟨us, []⟩) _ _ _
  simp only [callAny]
  refine wpAny_bind (wpAny_load hu ?_)
  simp only [PySem.W.kxs_mw, show (Value.type "method-wrapper" == Value.type "method" || Value.type "method-wrapper" == Value.type "builtin_function_or_method" || Value.type "method-wrapper" == Value.type "method-wrapper") = true by decide, if_true]
  refine PySem.W.KFB.if_so (by decide) ?_
  refine wpAny_bind (PySem.W.check_bound_init F.excBase_ValueError.toExcCallFacts hC' ho rfl ?_)
  refine wpAny_bind (wpAny_pure (wpAny_pure ?_))
  refine ⟨plainId_quiet F.excBase_ValueError.init.plain _, codeAny_builtin F.excBase_ValueError.initEntry ?_⟩
  refine PySem.W.exc_init_tree (cls := .ref C) (t0 := t1) (dv := none) (c2 := .none) (c3 := .none) (b4 := .bool false) ho hl fun h' k hx _ => ?_
  have J := I.write (t' := t) (x := a) (e := a) (o := exo a C none) (by rw [e]; exact True.intro) (.inl rfl) k ⟨_, hx⟩ (exo_ok hx)
  have eu : upd H a (exo a C none) = H := by
    funext b
    by_cases hb : b = a
    · rw [hb, upd_same, e]
    · rw [upd_ne hb]
  rw [eu] at J
  exact h _ J
/-- super().__init__(e, ..) as a statement of an exception's own __init__ -/
theorem sup_stmt {body : List Stmt} {e : Expr} {es : List Expr} {ta : TA} {p0 p1 p2 p3 p4 : Pos} {pl : Sem Bool} {nx : Hp → Prop} {fI cda cc : Addr} {fd : FuncData} {ar : Arg} {oc ccl cl : Value} {od cdd cld : Option Addr} {osl ccs csl : Array (Option Value)} {vs : Array Value} {file : Str} {tf : Tok}
    (O : OexC X.K C) (hfu : X.env.func = some fI) (lkf : X.K.lookup fI = some ⟨oc, od, .func fd, osl⟩) (hp : (fd.params.posonlyargs ++ fd.params.args).head? = some ar) (hco : X.env.code = .ref cda) (lkc : X.K.lookup cda = some ⟨ccl, cdd, .fields vs, ccs⟩)
    (hvs : vs[2]? = some (.str file tf)) (hfile : ((X.prog.main.file : Str) == file) = true) (hcel : X.env.cells.lookup ("__class__" : Str) = some cc) (lkcc : X.K.lookup cc = some ⟨cl, cld, .cell (some (.ref C)), csl⟩)
    (hks : X.env.kindOf "super" = some .globalImplicit) (hkc : X.env.kindOf "__class__" = some .free) (hk0 : X.env.kindOf ar.arg = some .local) (hN0 : X.N[0]? = some ar.arg)
    (sup : PySem.W.ks_superIn X.K C C "__init__" = some (some (.builtin "ValueError.__init__"))) (opq : PySem.W.nsIn X.K cStatics "thirdparty.any" = some none) (sVE : PySem.W.subIn X.K (.ref C) (.type "ValueError") = some true)
    (mro : PySem.W.mroIn X.K C (.ref C) = some true) (sG : X.mg "super" = none) (top : (X.prog.main.scope.names.lookup ("super" : Str)).isSome = false)
    (hpa : PA X (e :: es) ta) (I : Inv X pins σ H s) (hs0 : σ[0]? = some (some (.ref a))) (ea : H a = some (exo a C none)) (h : ta σ H fun vs H1 => H1 a = some (exo a C none) ∧ vs.length ≤ 1000 ∧ nx H1)
    (hi : interactive X.env = false) (hsw : swapsWith (.Call (.Attribute (.Call (.Name "super" p0) [] [] p1) "__init__" p2) (e :: es) [] p3) none p4.line X.env = pure false)
    (heq : eval (.Call (.Attribute (.Call (.Name "super" p0) [] [] p1) "__init__" p2) (e :: es) [] p3) X.env = (do
      let ov ← attributeBase (.Call (.Name "super" p0) [] [] p1) "__init__" X.env (eval (.Call (.Name "super" p0) [] [] p1) X.env)
      standAt p2.atName
      let (f, first) ← holding [ov] (getMethod ov "__init__" pl)
      callWith p3 f first (backTo p3 (starEach (e :: es) X.env)) []))
    (he : starEach (e :: es) X.env = (false, eval e X.env) :: starEach es X.env) (hpl : (backTo p3 (starEach es X.env)).any (·.1) = false) :
    _root_.PySem.wpAt (model X.prog X.w) X.A (.func body X.env) (exec (.Expr (.Call (.Attribute (.Call (.Name "super" p0) [] [] p1) "__init__" p2) (e :: es) [] p3) p4) X.env) (fun f s' => f = .next ∧ ∃ H1, Inv X pins σ H1 s' ∧ nx H1) X.xe s := by
  refine ks_wpAt_Expr_any ?_ hi hsw
  refine ks_wpAt_MethodCall ?_ heq
  obtain ⟨nm, q, N, bs, bm, sn, sub, ab, col, dd, k0, k1, k2, k3, k5, hC, hbm⟩ := O.cls
  have hC' := I.kIn _ _ hC
  obtain ⟨cd, hcd⟩ : ∃ cd, PySem.W.clsIn X.K C = some cd := by
    unfold PySem.W.ks_superIn at sup
    cases hc : PySem.W.clsIn X.K C with
    | none => rw [hc] at sup; cases sup
    | some cd => exact ⟨cd, rfl⟩
  have hsup : PySem.W.alongIn X.K "__init__" ((cd.mro.dropWhile (· != .ref C)).drop 1) = some (some (.builtin "ValueError.__init__")) := by
    unfold PySem.W.ks_superIn at sup
    rw [hcd] at sup
    exact sup
  obtain ⟨t1, hoe⟩ := exo_at I.hok ea
  have hnc : ∀ c, (({ cls := .ref C, dict := none, data := .fields #[.ref t1, .none, .none, .none, .bool false, .none] } : Obj)).data ≠ .cls c := fun c z => by cases z
  refine ks_wpAt_super_base hks hkc rfl hfu (I.kIn _ _ lkf) rfl hp hco (I.kIn _ _ lkc) rfl hvs hfile top ?_
  obtain ⟨mb, hb1, hb2⟩ := I.mod.blt
  refine PySem.W.ks_loadName_global I.ok.kind hks (Calls.loadGlobal_builtin (by rw [I.ok.glob]; exact I.mod.glob.keeps I.bk) sG (by rw [I.ok.blt]; exact hb1.keeps I.bk) ((hb2 "super" (by decide)).trans (by decide +kernel)) ⟨rfl, ?_⟩)
  refine wpAny_loadName_free I.ok.kind hkc hcel ⟨_, I.kIn _ _ lkcc, rfl⟩ ?_
  obtain ⟨m, hn, hlk⟩ := id I.loc
  obtain ⟨u0, r0, l0⟩ := hlk 0 ar.arg (.ref a) hN0 hs0 (.inl hk0)
  obtain rfl : u0 = Value.ref a := r0
  have hma : m ar.arg = some (.ref a) := by
    rcases l0 with ⟨_, z⟩ | ⟨z | z, _⟩
    · exact z
    · rw [hk0] at z; cases z
    · rw [hk0] at z; cases z
  refine wpAny_loadName_local I.ok.kind hk0 hn hma ?_
  refine ks_wpAny_isType_cls hC' rfl ⟨rfl, ?_⟩
  obtain ⟨hh, g, d, t, os⟩ := s
  refine ks_wpAny_call_super hC' rfl hoe rfl hnc (PySem.W.looks_mroIn I.kIn mro) (fun h1 e1 kp1 => ?_)
  have I1 : Inv X pins σ H ⟨h1, g, d, t, os⟩ := I.kept (t' := t) kp1
  have hoe1 := kp1 _ _ hoe
  have ne : a ≠ C := fun z => by
    rw [z] at hoe
    have hoe := hoe.symm.trans hC'
    cases hoe
  have hI : PySem.W.Looks (model X.prog X.w) h1 (isInstance (.ref a) (.type "ValueError")) true :=
    (show PySem.W.InstAt h1 a ({ cls := .ref C, dict := none, data := .fields #[.ref t1, .none, .none, .none, .bool false, .none] } : Obj) C none from ⟨hoe1, rfl, rfl, trivial⟩).type.andThen (PySem.W.looks_subIn I1.kIn sVE)
  refine PySem.W.kxs_getMethod PySem.W.kxs_ValueError e1 (PySem.W.looks_opaque I1.kIn opq) (l₀ := cd.mro) (fun A Q E s k q => wpAny_bind ((PySem.W.looks_clsIn I1.kIn hcd) A _ E s k (wpAny_pure q))) rfl I1.kIn hsup hI ne rfl ?_
  have kp2 : ∀ b o, h1.get? b = some o → (h1.push (PySem.W.kxs_mw "ValueError.__init__" a)).get? b = some o := fun b o z => Heap.get?_push_of_some _ z
  have hu2 : (h1.push (PySem.W.kxs_mw "ValueError.__init__" a)).get? h1.objs.size = some (PySem.W.kxs_mw "ValueError.__init__" a) := Heap.get?_push_at rfl rfl
  have I2 : Inv X pins σ H ⟨h1.push (PySem.W.kxs_mw "ValueError.__init__" a), g, d, t + 1, os⟩ := I1.kept (t' := t + 1) kp2
  have nH : H h1.objs.size = none := I1.hok.fresh (Nat.le_refl _)
  have I3 : Inv X ((h1.objs.size, PySem.W.kxs_mw "ValueError.__init__" a) :: pins) σ H ⟨h1.push (PySem.W.kxs_mw "ValueError.__init__" a), g, d, t + 1, os⟩ := I2.pins_of fun p hp => by
    rcases List.mem_cons.mp hp with rfl | hp
    · exact ⟨hu2, nH, Nat.ne_of_gt I1.lt, I1.nofs (Nat.le_refl _), fun v z => by cases z⟩
    · exact I2.pin p (List.mem_append_right _ hp)
  show wpAny _ _ (callWith p3 (.ref h1.objs.size) [] (backTo p3 (starEach (e :: es) X.env)) []) _ _ _
  rw [he]
  refine PySem.W.kxs_callWith (i := "ValueError.__init__") (x := a) (by show (false || (backTo p3 (starEach es X.env)).any (·.1)) = false; rw [hpl]; rfl) ?_
  refine Calls.evalArgs_plain ?_
  show wpAny _ _ (spliced (backTo p3 ((false, eval e X.env) :: starEach es X.env))) _ _ _
  rw [← he]
  refine thn (hpa.run p3 _ _ σ H _ I3 h) fun us s4 ⟨vs4, H4, I4, r4, e4, l4, q4⟩ => ?_
  have hu4 := (I4.pin _ (List.mem_append_right _ List.mem_cons_self)).1
  have I5 : Inv X pins σ H4 s4 := I4.pins_of fun p hp => I4.pin p (List.mem_append_right _ (List.mem_cons_of_mem _ hp))
  refine ⟨hu4, ?_⟩
  refine sup_call O I5 e4 hu4 ?_ fun s5 J => ⟨rfl, H4, J, q4⟩
  show us.length ≤ sizeLine
  rw [← Paired.length r4, sizeLine_eq]
  omega
end
/-- an exception's own __init__ by its body -/
theorem fn_ofI {CX : CXT} {P : Program} {w : World} {K : PySem.W.Frag} {mg : Str → Option Value} {base : Heap} {k : Nat} {C fI : Addr} {qual : Str} {st : Stmt} {fd : FuncData} {N ps : List Str} {ar : Arg} {sp : Sp} {ex : Expr} {es : List Expr} {rest : List Stmt} {p0 p1 p2 p3 p4 : Pos}
    (T : Sup P K mg C fI qual st fd) (S : NScope N ps ["__class__"] (defScope st)) (har : ((defArgs st).posonlyargs ++ (defArgs st).args).head? = some ar) (hps : ps[0]? = some ar.arg) (hsu : (defScope st).names.lookup ("super" : Str) = some .globalImplicit)
    (len : ∀ vs H Q E, sp vs H Q E → vs.length = ps.length)
    (hst : defBody st = .Expr (.Call (.Attribute (.Call (.Name "super" p0) [] [] p1) "__init__" p2) (ex :: es) [] p3) p4 :: rest)
    (hside : ∀ (cc cda L : Addr), interactive (envF ⟨"__init__", qual, defArgs st, defBody st, defScope st, [("__class__", cc)], cda⟩ fI L) = false ∧
      swapsWith (.Call (.Attribute (.Call (.Name "super" p0) [] [] p1) "__init__" p2) (ex :: es) [] p3) none p4.line (envF ⟨"__init__", qual, defArgs st, defBody st, defScope st, [("__class__", cc)], cda⟩ fI L) = pure false ∧
      (∃ pl : Sem Bool, eval (.Call (.Attribute (.Call (.Name "super" p0) [] [] p1) "__init__" p2) (ex :: es) [] p3) (envF ⟨"__init__", qual, defArgs st, defBody st, defScope st, [("__class__", cc)], cda⟩ fI L) = (do
        let ov ← attributeBase (.Call (.Name "super" p0) [] [] p1) "__init__" (envF ⟨"__init__", qual, defArgs st, defBody st, defScope st, [("__class__", cc)], cda⟩ fI L) (eval (.Call (.Name "super" p0) [] [] p1) (envF ⟨"__init__", qual, defArgs st, defBody st, defScope st, [("__class__", cc)], cda⟩ fI L))
        standAt p2.atName
        let (f, first) ← holding [ov] (getMethod ov "__init__" pl)
        callWith p3 f first (backTo p3 (starEach (ex :: es) (envF ⟨"__init__", qual, defArgs st, defBody st, defScope st, [("__class__", cc)], cda⟩ fI L))) [])) ∧
      starEach (ex :: es) (envF ⟨"__init__", qual, defArgs st, defBody st, defScope st, [("__class__", cc)], cda⟩ fI L) = (false, eval ex (envF ⟨"__init__", qual, defArgs st, defBody st, defScope st, [("__class__", cc)], cda⟩ fI L)) :: starEach es (envF ⟨"__init__", qual, defArgs st, defBody st, defScope st, [("__class__", cc)], cda⟩ fI L) ∧
      (backTo p3 (starEach es (envF ⟨"__init__", qual, defArgs st, defBody st, defScope st, [("__class__", cc)], cda⟩ fI L))).any (·.1) = false)
    (hbody : ∀ (cc cda : Addr) (A : Around) (outer : List Env) (s : Shared) (H : Hp) (vs : List V) (Q : VK) (E : XK), Room k (A.deeper (envF ⟨"__init__", qual, defArgs st, defBody st, defScope st, [("__class__", cc)], cda⟩ fI s.heap.objs.size)) → sp vs H Q E →
      ∃ (a : Addr) (vs' : List V) (ta : TA) (t : TS), vs = .ref a :: vs' ∧ H a = some (exo a C none) ∧ PA (ncx CX P w K mg base N ⟨"__init__", qual, defArgs st, defBody st, defScope st, [("__class__", cc)], cda⟩ fI A outer s H E) (ex :: es) ta ∧
        PSs (ncx CX P w K mg base N ⟨"__init__", qual, defArgs st, defBody st, defScope st, [("__class__", cc)], cda⟩ fI A outer s H E) rest t ∧
        ta (startF N vs [none]) H fun us H1 => H1 a = some (exo a C none) ∧ us.length ≤ 1000 ∧ t { nx := fun _ H' => Q .non H', rt := Q } (startF N vs [none]) H1) :
    FnOk P w K mg base CX (k + 1) fI fd ps sp := by
  obtain ⟨oc, od, kV, doc, pm, ct, an, osl, cc, cda, ccl, cl, cdd, cld, vs2, ccs, csl, file, tf, efd, lkf, hcd, lkc, hvs, hfile, lkcc⟩ := T.ex
  subst efd
  refine ⟨len, fun A outer s H args us vs Q E hr e0 hb r hsp => ?_⟩
  have hl := len _ _ _ _ hsp
  have KX : K.In s.heap := e0.mod.kin.keeps fun b o e => (e0.bs b o e).1
  have lim : s.heap.NoLimit := e0.mod.nolimit.keeps fun b o e => (e0.bs b o e).1
  have hloc : ∀ y ∈ ps.zip us, (defScope st).names.lookup y.1 = some .local := fun ⟨n, _⟩ hy => S.par n (List.of_mem_zip hy).1
  obtain ⟨h1, h2, ⟨pl, h3⟩, h4, h5⟩ := hside cc cda s.heap.objs.size
  refine ks_codeAny_call_defAt (fd := PySem.W.fnX "__init__" qual (defArgs st) (defBody st) (defScope st) [("__class__", cc)] .none kV doc pm an (.ref cda) ct) (body := defBody st) (binds := ps.zip us) hr.depth (KX _ _ lkf) rfl lim (PySem.W.codeRec_of KX hcd) rfl hb S.nocell hloc (fun h₁ hns kp => ?_) S.co S.gen S.kind
  have C0 : CellsAt [(("__class__" : Str), cc)] ["__class__"] [none] s.heap H := by
    have bc := e0.mod.kin _ _ lkcc
    have hc := e0.bs _ _ bc
    have look1 : ∀ {y : Str} {c : Addr}, List.lookup y [(("__class__" : Str), cc)] = some c → y = "__class__" ∧ c = cc := fun {y c} z => by
      by_cases hy : y = ("__class__" : Str)
      · subst hy
        simp [List.lookup] at z
        exact ⟨rfl, z.symm⟩
      · have e : (y == ("__class__" : Str)) = false := by simpa using hy
        simp [List.lookup, e] at z
    refine ⟨rfl, fun y c z => ?_, fun x y c z1 z2 => (look1 z1).1.trans (look1 z2).1.symm, fun i y z => ?_⟩
    · obtain ⟨_, rfl⟩ := look1 z
      exact ⟨hc.2, _, _, hc.1, rfl⟩
    · cases i with
      | zero =>
        have e : ("__class__" : Str) = y := by simpa using z
        subst e
        exact ⟨cc, by simp [List.lookup], fun v q => by simp at q⟩
      | succ i => simp at z
  have I : Inv (ncx CX P w K mg base N ⟨"__init__", qual, defArgs st, defBody st, defScope st, [("__class__", cc)], cda⟩ fI A outer s H E) [] (startF N vs [none]) H { s with heap := h₁, toks := s.toks + (ps.zip us).length } := inv_startN S hr.hd e0 hl r C0 hns kp
  obtain ⟨a, vs', ta, t, evs, ea, hpa, hrest, hq⟩ := hbody cc cda A outer s H vs Q E (hr.deeper _) hsp
  have hN0 : N[0]? = some ar.arg := by
    have hpre := S.pre
    have q : (ps ++ [("__class__" : Str)])[0]? = some ar.arg := by
      rw [List.getElem?_append_left (by
        cases ps with
        | nil => simp at hps
        | cons _ _ => simp)]
      exact hps
    rw [← hpre, List.getElem?_take_of_lt (by simp)] at q
    exact q
  have hs0 : (startF N vs [none])[0]? = some (some (.ref a)) := by
    rw [evs]
    rfl
  have hloc0 : (defScope st).names.lookup ar.arg = some .local := S.par _ (List.mem_of_getElem? hps)
  have fin : ∀ {σ' : L2.St} {H' : Hp} {v : V} {u : Value} {s' : Shared}, Inv (ncx CX P w K mg base N ⟨"__init__", qual, defArgs st, defBody st, defScope st, [("__class__", cc)], cda⟩ fI A outer s H E) [] σ' H' s' → L2.RelV v u → Q v H' → CE outer P w H s Q u s' :=
    fun {σ' H' v u s'} J rv q => ⟨v, H', J.os, J.bare, J.base, J.hok, rv, q⟩
  have sup := sup_stmt (X := ncx CX P w K mg base N ⟨"__init__", qual, defArgs st, defBody st, defScope st, [("__class__", cc)], cda⟩ fI A outer s H E) (body := defBody st) (p0 := p0) (p1 := p1) (p2 := p2) (p3 := p3) (p4 := p4) (pl := pl) (e := ex) (es := es) (C := C) (a := a)
    (nx := fun H1 => t { nx := fun _ H' => Q .non H', rt := Q } (startF N vs [none]) H1) (fI := fI) (cda := cda) (cc := cc) (ar := ar) (vs := vs2) (file := file) (tf := tf)
    T.O rfl lkf har rfl lkc hvs hfile (by rfl) lkcc hsu (S.frk _ List.mem_cons_self) hloc0 hN0 T.sup T.opq T.sVE T.mro T.sG T.top hpa I hs0 ea hq h1 h2 h3 h4 h5
  show _root_.PySem.wpAt (model P w) (A.deeper (envF ⟨"__init__", qual, defArgs st, defBody st, defScope st, [("__class__", cc)], cda⟩ fI s.heap.objs.size)) (.func (defBody st) (envF ⟨"__init__", qual, defArgs st, defBody st, defScope st, [("__class__", cc)], cda⟩ fI s.heap.objs.size))
    (execs (defBody st) (envF ⟨"__init__", qual, defArgs st, defBody st, defScope st, [("__class__", cc)], cda⟩ fI s.heap.objs.size)) _ _ _
  have sp2 : ∀ (stmts : List Stmt), stmts = .Expr (.Call (.Attribute (.Call (.Name "super" p0) [] [] p1) "__init__" p2) (ex :: es) [] p3) p4 :: rest →
      _root_.PySem.wpAt (model P w) (A.deeper (envF ⟨"__init__", qual, defArgs st, defBody st, defScope st, [("__class__", cc)], cda⟩ fI s.heap.objs.size)) (.func (defBody st) (envF ⟨"__init__", qual, defArgs st, defBody st, defScope st, [("__class__", cc)], cda⟩ fI s.heap.objs.size))
        (execs stmts (envF ⟨"__init__", qual, defArgs st, defBody st, defScope st, [("__class__", cc)], cda⟩ fI s.heap.objs.size)) (fun f s' => CR CX outer P w H s Q E (.ok (.ret (match f with | .ret v => v | _ => .none))) s')
        (ncx CX P w K mg base N ⟨"__init__", qual, defArgs st, defBody st, defScope st, [("__class__", cc)], cda⟩ fI A outer s H E).xe { s with heap := h₁, toks := s.toks + (ps.zip us).length } := fun stmts es' => by
    subst es'
    refine ks_wpAt_execs_cons (ks_wpAt_mono sup (fun f s' ⟨ef, H1, J, q⟩ => ?_) fun _ _ z => z)
    subst ef
    refine PySem.wpAt_of_wpAny (wpAny_mono (hrest.run [] s' _ H1 _ J q) (fun fl s2 hs => ?_) fun e s' hs => hs)
    cases fl with
    | ret u =>
      obtain ⟨v, σ', H', J, rv, q⟩ := hs
      exact fin J rv q
    | next =>
      obtain ⟨σ', H', J, q⟩ := hs
      exact fin (v := V.non) (u := Value.none) J rfl q
    | brk =>
      obtain ⟨_, _, _, q⟩ := hs
      exact False.elim q
    | cont =>
      obtain ⟨_, _, _, q⟩ := hs
      exact False.elim q
  exact sp2 (defBody st) hst
end GX

set_option Elab.async false
set_option linter.all false
set_option maxRecDepth 100000
set_option maxHeartbeats 4000000
namespace GX
open PySem PySem.Spec PyProof.Rows L2
/-- behind a suite whose name goes -/
def endsA (D : Ends) (i : Nat) : Ends := { nx := fun σ' H' => D.nx (σ'.set i none) H', rt := D.rt, bk := fun σ' H' => D.bk (σ'.set i none) H', ct := fun σ' H' => D.ct (σ'.set i none) H' }
/-- what the clauses, named ones too, wish of an exception of the body, one after the other -/
def wManyA (K : PySem.W.Frag) (Wout : WX) (D : Ends) : List (Value × Option Nat × (Addr → Value → Option Addr → TS)) → WX
  | [] => Wout
  | (c, .none, ts) :: r => fun cls d σ H => ∃ b, PySem.W.exmOne K cls c = some b ∧ (b = true → ∀ a, H a = none → ts a cls d D σ H) ∧ (b = false → wManyA K Wout D r cls d σ H)
  | (c, .some i, ts) :: r => fun cls d σ H => ∃ b, PySem.W.exmOne K cls c = some b ∧ (b = true → ∀ a, H a = none → ts a cls d (endsA D i) (σ.set i (some (.ref a))) H) ∧ (b = false → wManyA K Wout D r cls d σ H)
inductive HdsA (X : Cx) : List ExceptHandler → List (Value × Option Nat × (Addr → Value → Option Addr → TS)) → Prop
  | nil : HdsA X [] []
  | plain {x : Str} {c : Value} {ts : Addr → Value → Option Addr → TS} {b₀ : Stmt} {suite : List Stmt} {np pos' : Pos} {hds : List ExceptHandler} {l : List (Value × Option Nat × (Addr → Value → Option Addr → TS))} (hc : Names X x c)
      (hsu : ∀ (a : Addr) (oe : Obj) (cls : Value) (d : Option Addr) (pn : List (Addr × Obj)), Zc cls d oe → (∃ vs, oe.data = .fields vs) → PSs (X.suite a ((a, oe) :: pn)) (b₀ :: suite) (ts a cls d)) (r : HdsA X hds l) :
      HdsA X (.ExceptHandler (some (.Name x np)) none (b₀ :: suite) pos' :: hds) ((c, .none, ts) :: l)
  | named {x n : Str} {i : Nat} {c : Value} {ts : Addr → Value → Option Addr → TS} {b₀ : Stmt} {suite : List Stmt} {np pos' : Pos} {hds : List ExceptHandler} {l : List (Value × Option Nat × (Addr → Value → Option Addr → TS))} (hc : Names X x c)
      (hi : X.N[i]? = some n) (hln : X.env.kindOf n = some .local)
      (hsu : ∀ (a : Addr) (oe : Obj) (cls : Value) (d : Option Addr) (pn : List (Addr × Obj)), Zc cls d oe → (∃ vs, oe.data = .fields vs) → PSs (X.suite a ((a, oe) :: pn)) (b₀ :: suite) (ts a cls d)) (r : HdsA X hds l) :
      HdsA X (.ExceptHandler (some (.Name x np)) (some n) (b₀ :: suite) pos' :: hds) ((c, .some i, ts) :: l)
section
variable {X : Cx} {body : List Stmt} {h₀ : ExceptHandler} {hds : List ExceptHandler} {l : List (Value × Option Nat × (Addr → Value → Option Addr → TS))} {pos : Pos} {tb : WX → TS} {Wout : WX}
theorem ps_try_manyA (hs : X.stack = X.env :: X.outer) (hf : X.env.frame = some X.env.locals) (hN : X.N.Nodup) (tk : Takes X Wout)
    (hb : ∀ (W : WX) (pn : List (Addr × Obj)) (xe : Value → Shared → Prop), Takes (X.tr pn xe) W → PassesOwn (model X.prog X.w) X.A X.env xe → PSs (X.tr pn xe) body (tb W))
    (hh : HdsA X (h₀ :: hds) l) : PS X (.Try body (h₀ :: hds) [] [] pos) (fun D σ H => tb (wManyA X.K Wout D l) D σ H) := by
  refine ⟨fun pins s σ H D I h => ?_⟩
  have ok := I.ok
  have hfr : X.A.frames = some (X.env :: X.outer) := by rw [ok.frames, hs]
  refine wpAny_Try_except ?_
  refine wpAny_mono ((hb (wManyA X.K Wout D l) (X.pn ++ pins) (fun e s₁ => wpAny (model X.prog X.w) X.A (noteFrame e X.env) (fun _ s₂ => wpAny (model X.prog X.w) X.A (setFlight e none) (fun _ s₃ =>
    wpAny (model X.prog X.w) X.A (handleBy e X.env (h₀ :: hds)) (SP X pins D) X.xe s₃) X.xe s₂) X.xe s₁) (fun u s' xx => ?_) PassesOwn.looking).run [] s σ H D (I.toTry _) h) (fun f s1 hsp => ?_) (fun e s1 he => he)
  · obtain ⟨a, B, sI, pins', σ', H', cls, d, rfl, J', nb, up, sky, na, os, ag, w⟩ := xx
    have J : Inv X pins σ' H' sI := J'.ofTry ok
    have sky' : Sky B (X.env :: X.outer) a (Zc cls d) X.env.locals s'.heap := by rw [← hs]; exact sky
    show wpAny (model X.prog X.w) X.A (noteFrame (.ref a) X.env) _ _ _
    refine Sky.land Zc.steady hfr hf sky' fun h3 fl3 up3 => ?_
    have J3 : Inv X pins σ' H' { s' with heap := h3 } := J.landed nb fl3.1 (up.trans up3) os ag
    obtain ⟨oe3, vs3, he3, hz3, hd3⟩ := fl3.there
    have notFr : ∀ {h : Heap} {o : Obj} {vs : Array Value}, h.FunFrames B (X.env :: X.outer) → h.get? a = some o → o.data = .fields vs → a ∉ frs (X.env :: X.outer) := fun {h o vs} ff e dd hm => by
      obtain ⟨_, o', e', hnf⟩ := ff.mem hm
      rw [e] at e'; cases e'
      exact hnf _ dd
    have nfr := notFr fl3.2.2.1 he3 hd3
    have nL : a ≠ X.env.locals := fun z => nfr (List.mem_filterMap.mpr ⟨X.env, List.mem_cons_self, by rw [hf, z]⟩)
    have nF : a ∉ X.fs := fun hm => by
      obtain ⟨e, he, q⟩ := List.mem_filterMap.mp hm
      exact nfr (List.mem_filterMap.mpr ⟨e, List.mem_cons_of_mem _ he, q⟩)
    have S3 := J3.suite he3 hd3 na nL nF
    have LT : PySem.W.Looks (model X.prog X.w) h3 (typeOf (.ref a)) cls := fun A Q E s k q => wpAny_typeOf_ref (k _ _ he3) (by rw [hz3.1]; exact q)
    have test : ∀ {x : Str} {c : Value} {np : Pos} {Q : Value → Shared → Prop} {E : Value → Shared → Prop}, Names X x c → Q c { s' with heap := h3 } → wpAny (model X.prog X.w) (X.A.mark (some (.ref a))) (eval (.Name x np) X.env) Q E { s' with heap := h3 } := fun {x c np Q E} hc q => by
      obtain ⟨hg, hdbg, hm | ⟨hm, hv, hnn⟩⟩ := hc
      · exact ld_glob (X := X.suite a ((a, oe3) :: (X.pn ++ pins))) S3 hg hm q hdbg
      · exact ld_blt (X := X.suite a ((a, oe3) :: (X.pn ++ pins))) S3 hg hm hv q hnn hdbg
    have go : ∀ {hds' : List ExceptHandler} {l' : List (Value × Option Nat × (Addr → Value → Option Addr → TS))}, HdsA X hds' l' → wManyA X.K Wout D l' cls d σ' H' →
        wpAny (model X.prog X.w) X.A (handleBy (.ref a) X.env hds') (SP X pins D) X.xe { s' with heap := h3 } := by
      intro hds' l' hk
      induction hk with
      | nil =>
        intro w
        refine wpAny_handleBy_nil ?_
        obtain ⟨k1, k2, k3, oe, vs, T, oT, ts', he, hz, hd, h1, hr⟩ := id fl3
        unfold PySem.passOn
        refine wpAny_bind (wpAny_field he hd h1 ?_)
        rw [if_neg (show ¬ ((Value.ref T == Value.none) = true) from by simp)]
        have fin : wpAny (model X.prog X.w) X.A (setFlight (.ref a) X.env.frame) (fun _ s4 => wpAny (model X.prog X.w) X.A (throw (.ref a) : Sem Flow) (SP X pins D) X.xe s4) X.xe { s' with heap := h3 } := by
          rw [hf]
          refine HandSPX.setFlight_upZ fl3 fun h4 hh4 up4 => wpAny_throw (tk _ _ ?_)
          exact ⟨a, B, sI, pins, σ', H', cls, d, rfl, J, nb, (up.trans up3).trans up4, .inr (.inr (by rw [hs]; exact hh4)), na, os, ag, w⟩
        first
          | exact wpAny_bind (wpAny_pure (wpAny_bind fin))
          | exact wpAny_bind fin
      | @plain x c ts b₀ suite np pos' hds2 l2 hc hsu r ih =>
        intro w
        obtain ⟨b, hb1, hyes, hno⟩ := w
        refine wpAny_handleBy_cons (codeAny_handlers_test ?_) (by intro q; cases q)
        have LM := PySem.W.exm_one (M := model X.prog X.w) (J3.kIn) LT hb1
        refine test hc (LM.here ?_)
        cases b with
        | true =>
          refine codeAny_handlers_suite ?_
          refine HandSPX.lands_againZ fl3 fun h4 fl4 up4 => ?_
          have J4 : Inv X pins σ' H' { s' with heap := h4 } := J.landed nb fl4.1 ((up.trans up3).trans up4) os ag
          obtain ⟨oe4, vs4, he4, hz4, hd4⟩ := fl4.there
          have S4 := J4.suite he4 hd4 na nL nF
          refine wpAny_mono ((hsu a oe4 cls d (X.pn ++ pins) hz4 ⟨_, hd4⟩).run [] _ _ H' _ S4 (hyes rfl a na)) (fun f s6 hsp => ?_) (fun _ _ z => False.elim z)
          cases f with
          | next =>
            obtain ⟨σ6, H6, S6, q6⟩ := hsp
            exact ⟨_, _, S6.unsuite ok, q6⟩
          | brk =>
            obtain ⟨σ6, H6, S6, q6⟩ := hsp
            exact ⟨_, _, S6.unsuite ok, q6⟩
          | cont =>
            obtain ⟨σ6, H6, S6, q6⟩ := hsp
            exact ⟨_, _, S6.unsuite ok, q6⟩
          | ret u =>
            obtain ⟨v6, σ6, H6, S6, r6, q6⟩ := hsp
            exact ⟨_, _, _, S6.unsuite ok, r6, q6⟩
        | false =>
          show wpAny _ X.A (handleBy (.ref a) X.env hds2) _ _ _
          exact ih (hno rfl)
      | @named x n i c ts b₀ suite np pos' hds2 l2 hc hi hln hsu r ih =>
        intro w
        obtain ⟨b, hb1, hyes, hno⟩ := w
        have hloc : Loc X.env.scope n := .inl hln
        refine wpAny_handleBy_cons (codeAny_handlers_test ?_) (by intro q; cases q)
        have LM := PySem.W.exm_one (M := model X.prog X.w) (J3.kIn) LT hb1
        refine test hc (LM.here ?_)
        cases b with
        | true =>
          refine codeAny_handlers_suite_as ?_
          refine HandSPX.lands_againZ fl3 fun h4 fl4 up4 => ?_
          have J4 : Inv X pins σ' H' { s' with heap := h4 } := J.landed nb fl4.1 ((up.trans up3).trans up4) os ag
          obtain ⟨oe4, vs4, he4, hz4, hd4⟩ := fl4.there
          have S4 := J4.suite he4 hd4 na nL nF
          refine store_ok (X := X.suite a ((a, oe4) :: (X.pn ++ pins))) (v := .ref a) S4 hN hi hloc rfl (fun s5 S5 => ?_) (.inr hln)
          refine wpAny_mono ((hsu a oe4 cls d (X.pn ++ pins) hz4 ⟨_, hd4⟩).run [] s5 _ H' _ S5 (hyes rfl a na)) (fun f s6 hsp => ?_) (fun _ _ z => False.elim z)
          have end_ : ∀ {σ6 : L2.St} {H6 : Hp} {Q : Shared → Prop}, Inv (X.suite a ((a, oe4) :: (X.pn ++ pins))) [] σ6 H6 s6 → (∀ s7, Inv X pins (σ6.set i none) H6 s7 → Q s7) →
              wpAny (model X.prog X.w) X.A (do bindName X.env n .none; unbindBehindTheSuite X.env n pos') (fun _ s7 => Q s7) X.xe s6 := fun {σ6 H6 Q} S6 hq => gone_ok (S6.unsuite ok) hN hi hln hq
          cases f with
          | next =>
            obtain ⟨σ6, H6, S6, q6⟩ := hsp
            exact end_ S6 fun s7 J7 => ⟨_, _, J7, q6⟩
          | brk =>
            obtain ⟨σ6, H6, S6, q6⟩ := hsp
            exact end_ S6 fun s7 J7 => ⟨_, _, J7, q6⟩
          | cont =>
            obtain ⟨σ6, H6, S6, q6⟩ := hsp
            exact end_ S6 fun s7 J7 => ⟨_, _, J7, q6⟩
          | ret u =>
            obtain ⟨v6, σ6, H6, S6, r6, q6⟩ := hsp
            exact end_ S6 fun s7 J7 => ⟨_, _, _, J7, r6, q6⟩
        | false =>
          show wpAny _ X.A (handleBy (.ref a) X.env hds2) _ _ _
          exact ih (hno rfl)
    exact go hh w
  · cases f with
    | next =>
      obtain ⟨σ', H', J', q⟩ := hsp
      exact wpAny_execs_nil ⟨σ', H', J'.ofTry ok, q⟩
    | brk =>
      obtain ⟨σ', H', J', q⟩ := hsp
      exact ⟨σ', H', J'.ofTry ok, q⟩
    | cont =>
      obtain ⟨σ', H', J', q⟩ := hsp
      exact ⟨σ', H', J'.ofTry ok, q⟩
    | ret u =>
      obtain ⟨v, σ', H', J', r, q⟩ := hsp
      exact ⟨v, σ', H', J'.ofTry ok, r, q⟩
end
end GX

set_option Elab.async false
set_option linter.all false
set_option maxRecDepth 100000
set_option maxHeartbeats 4000000
namespace PySem
set_option maxHeartbeats 1000000 in
theorem gx_meets_enumerate_newB1 {v : Value} {o : Obj} {H : Heap → Prop} (B : Begins v o H) :
    Meets (Builtin.«enumerate.__new__» ⟨[.type "enumerate", v], []⟩) (fun _ R s => H s.heap ∧
      R (.ok (.ret (.ref (s.heap.push o).objs.size))) { s with heap := (s.heap.push o).push { cls := .type "enumerate", data := .fields #[.none, .bool false, .ref s.heap.objs.size, rawInt 0, .none, .none] } }) :=
  .of_wp fun prog w A R s h => by
    obtain ⟨hp, g, d, tk, os⟩ := s; obtain ⟨h1, h⟩ := h
    have hsub := sub_enumerate
    have q1 : ∀ {A' : Around} {E : Value → Shared → Prop} {Q : Value → Shared → Prop}, Q (.ref hp.objs.size) ⟨hp.push o, g, d, tk, os⟩ → wpAny (model prog w) A' (pyIter v) Q E ⟨hp, g, d, tk, os⟩ :=
      fun q => B.iter prog w _ _ ⟨hp, g, d, tk, os⟩ _ h1 q
    wp_walk using q1
    refine wpAny_stack_any fun st => wpAny_pure ?_
    split
    · rename_i c _ _ _ _ _
      cases (c == Value.type "enumerate")
      · wp_walk using q1
        exact ⟨_, rfl, h⟩
      · wp_walk using q1
        exact ⟨_, rfl, h⟩
    · wp_walk using q1
      exact ⟨_, rfl, h⟩
theorem gx_enum1 {prog : Program} {w : World} {A : Around} {E : Value → Shared → Prop} {s : Shared} {v : Value} {o : Obj} {H : Heap → Prop} {Q : Value → Shared → Prop} (B : Begins v o H) (h1 : H s.heap)
    (h : ∀ h', IsEnum h' (s.heap.objs.size + 1) s.heap.objs.size 0 .none → h'.get? s.heap.objs.size = some o → h'.objs.size = s.heap.objs.size + 2 →
      (∀ b o, s.heap.get? b = some o → h'.get? b = some o) → Q (.ref (s.heap.objs.size + 1)) { s with heap := h' }) :
    wpAny (model prog w) A (call (.type "enumerate") [v]) Q E s := by
  refine callType_new F.called_enumerate (by decide) (F.typeCall_enumerate_1 _) (F.newCall_enumerate_1 _) (fun obj => F.args_object_init_2 obj _) F.entry_enumerate_new
    (gx_meets_enumerate_newB1 B) ⟨h1, ?_⟩
  have hz : (s.heap.push o).objs.size = s.heap.objs.size + 1 := Heap.size_push ..
  show _ ∧ _
  rw [hz]
  have he : IsEnum ((s.heap.push o).push { cls := .type "enumerate", data := .fields #[.none, .bool false, .ref s.heap.objs.size, rawInt 0, .none, .none] }) (s.heap.objs.size + 1) s.heap.objs.size 0 .none := by
    have := Heap.get?_push_size (s.heap.push o) (o := { cls := .type "enumerate", data := .fields #[.none, .bool false, .ref s.heap.objs.size, rawInt 0, .none, .none] }) rfl
    rw [hz] at this; exact this
  refine ⟨⟨_, he, rfl⟩, h _ he (Heap.get?_push_of_some _ (Heap.get?_push_size _ B.free)) (by rw [Heap.size_push, hz]) fun b o x => Heap.get?_push_of_some _ (Heap.get?_push_of_some _ x)⟩
end PySem
namespace GX
open PySem PySem.Spec PyProof.Rows L2
/-! ### enumerate(tuple) -/
def IteT (K : PySem.W.Frag) (a : Addr) : It :=
  ⟨fun i H => ∃ (xs : List V) (x : V), SqT K H a xs ∧ xs[i]? = some x, fun i H v H' => ∃ T x, v = .ref T ∧ H T = none ∧ H' = upd H T (.tup [.int (i : Nat), x]) ∧ ∀ xs, SqT K H a xs → xs[i]? = some x, fun i H => ∃ xs : List V, SqT K H a xs ∧ xs.length = i⟩
theorem turn_enumT {P : Program} {w : World} {K : PySem.W.Frag} {elts : List Expr} {kk : Nat} {tpos : Pos} (a e it : Addr) :
    Turn P w K (.Tuple elts kk tpos) (IteT K a) [e, it] e (fun i h => (∃ old, IsEnum h e it ((i : Nat) : Int) old) ∧ h.IsTupleIter it a i ∧ e ≠ it ∧ a ≠ e ∧ a ≠ it) where
  mem := by simp
  obj := fun i h st b hb => by
    obtain ⟨⟨old, he⟩, ⟨o, ho, hc, hd⟩, _⟩ := st
    have e' : b = e ∨ b = it := by simpa using hb
    rcases e' with z | z
    · rw [z]; exact ⟨_, he, fun v q => nomatch q⟩
    · rw [z]; exact ⟨o, ho, fun v q => by rw [hd] at q; cases q⟩
  keep := fun i h h' st k => let ⟨⟨old, he⟩, hi, hne⟩ := st; ⟨⟨old, k e (by simp) _ he⟩, hi.at fun o q => k it (by simp) o q, hne⟩
  item := by
    intro X hP hw hK hc i pins s σ H E I hf st hg
    subst hP hw hK
    obtain ⟨⟨old, he⟩, hit, hne, hae, hai⟩ := st
    obtain ⟨xs, x, hq, hx⟩ := hg
    obtain ⟨its, rv, p, hz⟩ := I.tuple hq
    obtain ⟨u, hu, ru⟩ := rv.get hx
    have hel : e < s.heap.objs.size := Heap.lt_size he
    have hil : it < s.heap.objs.size := by obtain ⟨_, q, _⟩ := hit; exact Heap.lt_size q
    have D := Draws.tuple (prog := X.prog) (w := X.w) (A := X.A.in1) (show X.A.in1.handled = none from I.ok.hd hc) it a hai its.toArray
    have hlt : i < its.toArray.size := by
      rcases Nat.lt_or_ge i its.toArray.size with z | z
      · exact z
      · have z' : its.length ≤ i := by simpa using z
        rw [List.getElem?_eq_none z'] at hu
        cases hu
    refine wpAny_pyNext_enum_itemD D he ⟨hit, (show s.heap.IsTuple a its.toArray from p)⟩ hlt hne (by simp [hne, Ne.symm hae]) fun x1 h' tk hx1 ho hst hT hsz hk => ?_
    have ex1 : x1 = u := by
      have q : its[i]? = some x1 := by simpa using hx1
      rw [hu] at q
      exact (Option.some.inj q).symm
    subst ex1
    refine ⟨_, rfl, wpAny_letOwnedTupleGo_enum (s := { s with heap := h', toks := tk + 1 }) ho fun h'' he' sb => ?_⟩
    have hT2 : h''.get? s.heap.objs.size = some { cls := .type "tuple", data := .seq #[.int i tk, x1] } := (sb.2 _ (Nat.ne_of_gt hel)).trans hT
    have new : ObjOk X.prog X.w (upd H s.heap.objs.size (.tup [.int (i : Nat), x])) h'' s.heap.objs.size (.tup [.int (i : Nat), x]) :=
      ⟨by show 2 ≤ sizeLine; decide, [.int i tk, x1], .cons ⟨_, rfl⟩ (.cons ru .nil), ⟨_, hT2, rfl, _, rfl⟩⟩
    have I1 : Inv X pins σ (upd H s.heap.objs.size (.tup [.int (i : Nat), x])) { s with heap := h'', toks := tk + 1 } :=
      I.turnedNew (ch := [e, it]) (fun b ob hb q => (sb.2 b (fun z => hb (by simp [z]))).trans (hk b ob (fun z => hb (by simp [z])) (fun z => hb (by simp [z])) q)) hf (Nat.le_refl _) new
    refine ⟨.ref s.heap.objs.size, _, I1, rfl, ⟨_, x, rfl, I.hok.fresh (Nat.le_refl _), rfl, fun ys hy => by rw [I.tuple_inj hy hq]; exact hx⟩, ⟨⟨x1, ?_⟩, hst.1.at fun o q => (sb.2 it (Ne.symm hne)).trans q, hne, hae, hai⟩, fun b hb => ?_⟩
    · have e1 : ((i + 1 : Nat) : Int) = (i : Int) + 1 := by omega
      rw [e1]; exact he'
    · have hb' : b < s.heap.objs.size := by
        have e' : b = e ∨ b = it := by simpa using hb
        rcases e' with z | z
        · rw [z]; exact hel
        · rw [z]; exact hil
      rw [upd_ne (Nat.ne_of_lt hb')]
      exact (hf b hb).1
  done := by
    intro X hP hw hK hc i pins s σ H E I hf st hg
    subst hP hw hK
    obtain ⟨⟨old, he⟩, hit, hne, hae, hai⟩ := st
    obtain ⟨xs, hq, hx⟩ := hg
    obtain ⟨its, rv, p, hz⟩ := I.tuple hq
    obtain ⟨f0, f1, f2, f3, f4, f5⟩ := hf it (by simp)
    have hl := rv.length
    have D := Draws.tuple (prog := X.prog) (w := X.w) (A := X.A.in1) (show X.A.in1.handled = none from I.ok.hd hc) it a hai its.toArray
    have e0 : its.toArray.size = i := by simp; omega
    exact wpAny_pyNext_enum_endD D he ⟨by rw [e0]; exact hit, (show s.heap.IsTuple a its.toArray from p)⟩ fun h' eb => ⟨rfl, I.turned (t' := s.toks) (fun b o hb q => eb b o hb q) f0 f1 f3 f4 f5⟩
  self := fun A i s Q E st h => let ⟨⟨_, he⟩, _⟩ := st; wpAny_pyIter_enum he h
/-- enumerate(list or tuple) -/
def iEnumA (K : PySem.W.Frag) (ta : TA) : TI := fun σ H R => ta σ H fun vs H1 => ∃ a xs, vs = [.ref a] ∧ ((SqL K H1 a xs ∧ R (Ite K a) H1) ∨ (SqT K H1 a xs ∧ R (IteT K a) H1))
theorem pi_enumA {X : Cx} {e : Expr} {ta : TA} {p pos tpos : Pos} {elts : List Expr} {kk : Nat} (hg : Gl X "enumerate") (hm : X.mg "enumerate" = none) (ha : PA X [e] ta) (hs : starEach [e] X.env = [(false, eval e X.env)] := by rfl) :
    PI X (.Tuple elts kk tpos) (.Call (.Name "enumerate" p) [e] [] pos) (iEnumA X.K ta) := by
  refine ⟨fun pins s σ H R I h => ?_⟩
  refine Call_ (ld_blt I hg hm boot_enumerate (PyProof.Rows.callWith_type1 (thn (ha.run pos pins s σ H _ I h) fun us s1 ⟨vs, H1, I1, r1, q1⟩ => ?_) hs rfl))
  obtain ⟨a, xs, ex, q⟩ := q1
  subst ex
  cases r1 with
  | cons r rr =>
    cases rr
    cases r
    have fr : ∀ b, b = s1.heap.objs.size + 1 ∨ b = s1.heap.objs.size → FpOk X pins H1 b := fun b e' => by
      have hle : s1.heap.objs.size ≤ b := by
        rcases e' with z | z
        · rw [z]; exact Nat.le_add_right _ _
        · rw [z]; exact Nat.le_refl _
      exact I1.fpOk hle (I1.hok.fresh hle)
    rcases q with ⟨hq, q⟩ | ⟨hq, q⟩
    · obtain ⟨its, rv, p', hz⟩ := I1.list hq
      refine call_enumerate_list p'.isList fun h' he hit hsz hk => wpAny_pyIter_enum he ?_
      have I2 : Inv X pins σ H1 { s1 with heap := h' } := I1.kept (t' := s1.toks) hk
      exact ⟨s1.heap.objs.size + 1, [s1.heap.objs.size + 1, s1.heap.objs.size], _, _, H1, rfl, I2, turn_enum a (s1.heap.objs.size + 1) s1.heap.objs.size, ⟨⟨.none, he⟩, hit, Nat.succ_ne_self _⟩, fun b hb => fr b (by simpa using hb), q⟩
    · obtain ⟨its, rv, p', hz⟩ := I1.tuple hq
      have hal := p'.lt
      refine gx_enum1 (begins_tuple a its.toArray) (show s1.heap.IsTuple a its.toArray from p') fun h' he hit hsz hk => wpAny_pyIter_enum he ?_
      have I2 : Inv X pins σ H1 { s1 with heap := h' } := I1.kept (t' := s1.toks) hk
      exact ⟨s1.heap.objs.size + 1, [s1.heap.objs.size + 1, s1.heap.objs.size], _, _, H1, rfl, I2, turn_enumT a (s1.heap.objs.size + 1) s1.heap.objs.size, ⟨⟨.none, he⟩, ⟨_, hit, rfl, rfl⟩, Nat.succ_ne_self _, Nat.ne_of_lt (Nat.lt_succ_of_lt hal), Nat.ne_of_lt hal⟩, fun b hb => fr b (by simpa using hb), q⟩
/-! ### range(n) as a value; a walk of it -/
theorem cr_range1 {X : Cx} : CallR X (.type "range") (fun vs H Q => ∃ j, vs = [V.int j] ∧ ∀ p, H p = none → Q (.ref p) (upd H p (.rng 0 j))) := by
  intro pins s σ H vs us Q I r h
  obtain ⟨j, rfl, q⟩ := h
  obtain ⟨u1, rfl, ri⟩ := vals1 r
  obtain ⟨t, rfl⟩ := ri
  refine call_range_1 ⟨.ref s.heap.objs.size, upd H s.heap.objs.size (.rng 0 j), I.laid (t' := s.toks + 2) (fun b o e => Heap.get?_push_of_some _ e) (Nat.le_refl _) ?_, rfl, q _ (I.hok.fresh (Nat.le_refl _))⟩
  exact ⟨s.toks, t, s.toks + 1, Heap.get?_push_size _ rfl⟩
/-- a range that stands in H, walked -/
def iRngO (tl : TE) : TI := fun σ H R => tl σ H fun x H1 => ∃ a lo hi, x = .ref a ∧ H1 a = some (.rng lo hi) ∧ (-(2 ^ 62) ≤ lo ∧ lo < 2 ^ 62 ∧ -(2 ^ 62) ≤ hi ∧ hi < 2 ^ 62) ∧ R (Itr lo (hi - lo).toNat) H1
theorem pi_rngO {X : Cx} {tg l : Expr} {tl : TE} (hl : PE X l tl) : PI X tg l (iRngO tl) := by
  refine ⟨fun pins s σ H R I h => ?_⟩
  refine thn (hl.run pins s σ H _ I h) fun v s1 ⟨x, H1, I1, r1, q1⟩ => ?_
  obtain ⟨a, lo, hi, e, ha, ⟨b1, b2, b3, b4⟩, q⟩ := q1
  subst e
  cases r1
  obtain ⟨t, u, v, ho⟩ := (show ∃ t u v, s1.heap.get? a = some { cls := .type "range", data := .fields #[.int lo t, .int hi u, .int 1 v] } from I1.hok a _ ha)
  refine wpAny_pyIter_range ho (small_one b1 b2 b3 b4) ?_
  refine ⟨s1.heap.objs.size, [s1.heap.objs.size], _, _, H1, rfl, I1.kept (t' := s1.toks) fun b o e => Heap.get?_push_of_some _ e, turn_range _ lo (hi - lo).toNat, ?_, fun b hb => ?_, q⟩
  · have e1 : lo + ((0 : Nat) : Int) * 1 = lo := by simp
    have e2 : (((hi - lo).toNat : Nat) : Int) - ((0 : Nat) : Int) = Builtin.Range.rangeSize lo hi 1 := by rw [rangeSize_one]; split <;> omega
    show IsRangeIter _ _ (lo + ((0 : Nat) : Int) * 1) ((((hi - lo).toNat : Nat) : Int) - ((0 : Nat) : Int)) 1
    rw [e1, e2]
    exact Heap.get?_push_size _ rfl
  · have e : b = s1.heap.objs.size := by simpa using hb
    subst e
    exact I1.fpOk (Nat.le_refl _) (I1.hok.fresh (Nat.le_refl _))
end GX
namespace PySem
open SrtO
section
open PyProof.Rows
variable {prog : Program} {w : World} {A : Around} {E : Value → Shared → Prop} {s : Shared}
theorem gx_collect_tuple {l : Addr} {vs : List Value} {Q : List Value → Shared → Prop} (hl : s.heap.IsTuple l vs.toArray)
    (h : Q vs { s with heap := (s.heap.push (seqObj "list" #[] 0)).update s.heap.objs.size (Obj.mapSeq (· ++ vs.toArray)) }) (hsz : vs.length ≤ sizeLine) :
    wpAny (model prog w) A (collect (.ref l)) Q E s := by
  obtain ⟨o, ho, hc, n, hd⟩ := id hl
  unfold collect
  refine wpAny_bind (wpAny_runValue (codeAny_builtin entry_proto_collect' ?_))
  show wpAny _ _ (do again (.builtin "list.__iadd__" ⟨[← newList [], .ref l], []⟩)) _ _ s
  refine wpAny_bind (wpAny_newList (wpAny_pure ⟨Code.quiet_builtin _ (by decide +kernel), codeAny_builtin entry_list_iadd' ?_⟩))
  show wpAny _ _ (Builtin.List.listExtendWith (.ref s.heap.objs.size) (.ref l) (.ref s.heap.objs.size)) _ _ { s with heap := s.heap.push (seqObj "list" #[] 0) }
  unfold Builtin.List.listExtendWith
  have ho' : (s.heap.push (seqObj "list" #[] 0)).get? l = some o := Heap.get?_push_of_some _ ho
  refine wpAny_bind (wpAny_typeOf (T := "tuple") ⟨o, ho', hc⟩ ?_)
  have ht : (Value.type "tuple" == Value.type "tuple") = true := by rfl
  rw [if_pos (by rw [ht]; simp)]
  refine wpAny_bind (listItems_at ho' hd ?_)
  refine wpAny_bind (listItems_at (xs := #[]) (n := 0) (Heap.get?_push_size _ rfl) rfl ?_)
  rw [if_neg (by simp)]
  refine wpAny_bind (listUpdate_at (xs := #[]) (n := 0) (Heap.get?_push_size _ rfl) rfl ?_ (Nat.zero_le _) (by show (#[] ++ vs.toArray).size ≤ sizeLine + 1; simp only [Array.size_append, List.size_toArray, List.length_nil]; omega))
  refine wpAny_pure ?_
  show wpAny (model prog w) A (do
      let o ← load s.heap.objs.size
      match o.data with
      | .seq xs _ => pure xs.toList
      | _ => unsupported "internal:collect") Q E { s with heap := (s.heap.push (seqObj "list" #[] 0)).update s.heap.objs.size (Obj.mapSeq (· ++ vs.toArray)) }
  refine wpAny_bind (wpAny_load (get?_update_seq (Heap.get?_push_size _ rfl) _) ?_)
  show wpAny _ _ (pure ((#[] : Array Value) ++ vs.toArray).toList) Q E _
  rw [show ((#[] : Array Value) ++ vs.toArray).toList = vs by simp]
  exact wpAny_pure h
theorem gx_sorted_ordT {l : Addr} {vs : List Value} {ltv : Value → Value → Bool} {Q : Value → Shared → Prop} (O : Swo ltv) (hl : s.heap.IsTuple l vs.toArray) (hz : vs.length ≤ sizeLine)
    (hS : 2 ≤ vs.length → ∀ (h₁ : Heap) (a : Addr), h₁.get? a = some (seqObj "list" vs.toArray 0) → (∀ b o, s.heap.get? b = some o → b ≠ a ∧ h₁.get? b = some o) → SortableO prog w A.in1.in1 { s with heap := h₁ } a vs ltv)
    (h : ∀ out : List Value, Srtd ltv out → Stb ltv out vs → Q (.ref (s.heap.objs.size + 1)) { s with heap := sortedAll s.heap vs out.toArray }) :
    wpAny (model prog w) A (call (.builtin "sorted") [.ref l]) Q E s := by
  refine Calls.call_function_entry kind_sorted plain_sorted entry_sorted (args_sorted1 _) ?_
  unfold Builtin.«sorted»
  refine wpAny_bind (m := checkCount "sorted" 1 1 _) (wpAny_pure ?_)
  refine wpAny_bind (gx_collect_tuple hl ?_ hz)
  refine wpAny_bind (wpAny_newList ?_ hz)
  have hsz : ((s.heap.push (seqObj "list" #[] 0)).update s.heap.objs.size (Obj.mapSeq (· ++ vs.toArray))).objs.size = s.heap.objs.size + 1 := by
    rw [Heap.size_update, size_push']
  have hoL : (((s.heap.push (seqObj "list" #[] 0)).update s.heap.objs.size (Obj.mapSeq (· ++ vs.toArray))).push (seqObj "list" vs.toArray 0)).get? (s.heap.objs.size + 1) = some (seqObj "list" vs.toArray 0) := by
    rw [← hsz]; exact Heap.get?_push_size _ rfl
  have keep : ∀ b o, s.heap.get? b = some o → b ≠ s.heap.objs.size + 1 ∧ (((s.heap.push (seqObj "list" #[] 0)).update s.heap.objs.size (Obj.mapSeq (· ++ vs.toArray))).push (seqObj "list" vs.toArray 0)).get? b = some o := fun b o q => by
    have hlt : b < s.heap.objs.size := Heap.lt_size q
    refine ⟨Nat.ne_of_lt (Nat.lt_succ_of_lt hlt), Heap.get?_push_of_some _ ?_⟩
    rw [Heap.get?_update_ne _ _ _ _ (Nat.ne_of_lt hlt)]
    exact Heap.get?_push_of_some _ q
  show wpAny _ _ _ _ _ { s with heap := ((s.heap.push (seqObj "list" #[] 0)).update s.heap.objs.size (Obj.mapSeq (· ++ vs.toArray))).push (seqObj "list" vs.toArray 0) }
  rw [hsz]
  refine wpAny_bind (wpAny_holding (wpAny_call_entry slot_list_sort ⟨_, hoL, rfl⟩ entry_list_sort (list_sort_ord O hoL hz (fun h2 => hS h2 _ _ hoL keep) fun out hs hb => ⟨_, rfl, ?_⟩) (args_list_sort _)))
  exact wpAny_pure ⟨_, rfl, h out hs hb⟩
end
end PySem
namespace GX
open PySem PySem.Spec PyProof.Rows L2
/-- sorted(list or tuple of ints), any number of them -/
def rSortedIA (K : PySem.W.Frag) : List V → Hp → VK → Prop := fun vs H Q => ∃ (a : Addr) (ns : List Int), vs = [V.ref a] ∧ (SqL K H a (ns.map V.int) ∨ SqT K H a (ns.map V.int)) ∧
  ∀ (ns' : List Int) (p : Addr), ns'.Perm ns → ns'.Pairwise (· ≤ ·) → H p = none → Q (.ref p) (upd H p (.lst (ns'.map V.int)))
theorem cr_sortedIA {X : Cx} : CallR X (.builtin "sorted") (rSortedIA X.K) := by
  intro pins s σ H vs us Q I r h
  obtain ⟨a, ns, rfl, hs, q⟩ := h
  rcases hs with hs | hs
  · exact cr_sortedI pins s σ H _ us Q I r ⟨a, ns, rfl, hs, q⟩
  · obtain ⟨its, rv, hl, hz⟩ := I.tuple hs
    rw [Vals.ref1 r]
    have hi := rv.ints
    refine gx_sorted_ordT SrtO.swo_int (show s.heap.IsTuple a its.toArray from hl) (by rw [← rv.length]; exact hz) (fun h2 h₁ a' _ _ => SrtO.ints_sortable hi h2) fun out h1 h2 => ?_
    obtain ⟨k1, k2, k3⟩ := SrtO.ints_out hi h1 h2
    obtain ⟨ep, he'⟩ := PyProof.Rows.sortedAll_at s.heap its out.toArray
    have hlen : ((out.map SrtO.iv).map V.int).length ≤ sizeLine := by
      rw [List.length_map, k2.length_eq]
      rw [List.length_map] at hz
      exact hz
    exact ⟨.ref _, upd H (s.heap.objs.size + 1) (.lst ((out.map SrtO.iv).map V.int)), I.laid (t' := s.toks) (fun _ _ => PyProof.Rows.sortedAll_old) (Nat.le_succ _) ⟨hlen, out, ep, vals_of_ints k1, he'⟩, rfl, q _ _ k2 k3 (I.hok.fresh (Nat.le_succ _))⟩
end GX

set_option Elab.async false
set_option linter.all false
set_option maxRecDepth 100000
set_option maxHeartbeats 4000000
namespace PySem
theorem gx_tuple_mul1 (l : Addr) (items : Array Value) (n : Nat) (dd : Option Addr) (sl : Array (Option Value)) (u : Tok) :
    Meets (Builtin.«tuple.__mul__» { pos := [.ref l, .int 1 u] }) fun _ R s => s.heap.get? l = some { cls := .type "tuple", dict := dd, data := .seq items n, slots := sl } ∧ R (.ok (.ret (.ref l))) s :=
  .of_wp fun prog w A R s h => by
    obtain ⟨hp, g, d, tk, os⟩ := s; obtain ⟨h1, h⟩ := h
    wp_walk
    exact ⟨_, rfl, h⟩
theorem gx_tuple_mul0 (l : Addr) (items : Array Value) (n : Nat) (dd : Option Addr) (sl : Array (Option Value)) (u : Tok) :
    Meets (Builtin.«tuple.__mul__» { pos := [.ref l, .int 0 u] }) fun _ R s => s.heap.get? l = some { cls := .type "tuple", dict := dd, data := .seq items n, slots := sl } ∧ items.isEmpty = false ∧ R (.ok (.ret (Value.ref s.heap.objs.size))) { s with heap := s.heap.push { cls := Value.type "tuple", data := Data.seq #[] }, toks := s.toks } :=
  .of_wp fun prog w A R s h => by
    obtain ⟨hp, g, d, tk, os⟩ := s; obtain ⟨h1, h2, h⟩ := h
    wp_walk
    exact ⟨_, rfl, h⟩
end PySem
namespace L2
open PySem PySem.Spec PyProof.Rows
/-- tuple * k, k from 0 on -/
def rRepA (K : PySem.W.Frag) : R2 := fun x y H Q => ∃ l k xs, x = .ref l ∧ y = .int k ∧ SqT K H l xs ∧ xs ≠ [] ∧ 0 ≤ k ∧ k ≤ 1000 ∧ xs.length ≤ 1000 ∧ (k = 1 → Q (.ref l) H) ∧ (k ≠ 1 → ∀ p, H p = none → Q (.ref p) (upd H p (.tup (List.replicate k.toNat xs).flatten)))
section
variable {X : Cx}
theorem op_repA : OpR X (binaryOp .Mult) (rRepA X.K) := by
  intro pins s σ H x y v u Q I rx ry h
  obtain ⟨l, k, xs, rfl, rfl, hT, hne, h1, h2, hz, q1, q2⟩ := h
  by_cases k2 : 2 ≤ k
  · exact op_repT pins s σ H _ _ v u Q I rx ry ⟨l, k, xs, rfl, rfl, hT, hne, k2, h2, hz, q2 (by omega)⟩
  cases rx
  obtain ⟨t, rfl⟩ := ry
  obtain ⟨its, r, ⟨⟨cls, dd, data, sl⟩, ho, hc, n, hd⟩, hs⟩ := I.tuple hT
  simp only at hc hd
  subst hc hd
  have hle : its.length = xs.length := r.length.symm
  have hn : its ≠ [] := fun e => hne (by
    rw [e] at hle
    exact List.eq_nil_of_length_eq_zero hle.symm)
  have hi : its.toArray.isEmpty = false := by
    cases its with
    | nil => exact absurd rfl hn
    | cons a b => rfl
  by_cases k1 : k = 1
  · subst k1
    refine wpAny_binaryOp_repeat_ref (T := "tuple") (U := "int") (by decide) ⟨_, ho, rfl⟩ (fun s' => typeIs_int s' 1 t) noFill_tuple_mul F.fills_int_mul F.slot_int_rmul repeat_tuple F.slot_int_index.lookup
      (call_meets F.slot_int_rmul (typeIs_int s 1 t) F.entry_int_rmul (F.args_int_rmul_2 _ _) (int_rmul_tuple 1 t l its.toArray n dd sl)
        ⟨ho, rfl, ⟨_, ho, rfl⟩, call_meets F.slot_tuple_mul ⟨_, ho, rfl⟩ F.entry_tuple_mul (F.args_tuple_mul_2 _ _) (gx_tuple_mul1 l its.toArray n dd sl t) ⟨ho, ?_⟩⟩)
    exact ⟨.ref l, H, I, rfl, q1 rfl⟩
  · have k0 : k = 0 := by omega
    subst k0
    refine wpAny_binaryOp_repeat_ref (T := "tuple") (U := "int") (by decide) ⟨_, ho, rfl⟩ (fun s' => typeIs_int s' 0 t) noFill_tuple_mul F.fills_int_mul F.slot_int_rmul repeat_tuple F.slot_int_index.lookup
      (call_meets F.slot_int_rmul (typeIs_int s 0 t) F.entry_int_rmul (F.args_int_rmul_2 _ _) (int_rmul_tuple 0 t l its.toArray n dd sl)
        ⟨ho, rfl, ⟨_, ho, rfl⟩, call_meets F.slot_tuple_mul ⟨_, ho, rfl⟩ F.entry_tuple_mul (F.args_tuple_mul_2 _ _) (gx_tuple_mul0 l its.toArray n dd sl t) ⟨ho, hi, ?_⟩⟩)
    refine ⟨.ref s.heap.objs.size, _, I.laid (t' := s.toks) (o := .tup []) (fun b ob q => Heap.get?_push_of_some _ q) (Nat.le_refl _) ?_, rfl, q2 k1 _ (I.hok.fresh (Nat.le_refl _))⟩
    exact ⟨Nat.zero_le _, [], .nil, IsTup.new _ _⟩
end
end L2

set_option Elab.async false
set_option linter.all false
set_option maxRecDepth 100000
set_option maxHeartbeats 4000000
namespace L2
open PySem PySem.Spec PyProof.Rows
section
variable {X : Cx} {CX : CXT} {k : Nat} {f C : Addr} {fd : FuncData} {ps ks : List Str} {sp : Sp} {E : St → XK} {x m : Str} {p pos apos : Pos} {e o : Expr} {es : List Expr} {kws : List Keyword} {te ta : TE} {t tk : TA} {g : List Value → List Value → List Value} {gV : List V → List V → List V}
/-- a call with keywords inside a try -/
def tCallKS (sp : Sp) (gV : List V → List V → List V) (E : St → XK) (t tk : TA) : TE := fun σ H Q => t σ H fun vs H1 => tk σ H1 fun zs H2 => sp (gV vs zs) H2 Q (E σ)
theorem run_fnks {pins : List (Addr × Obj)} {σ : St} {H : Hp} {s : Shared} {Q : VK} {us ws : List Value} {vs zs : List V} (F : FnOk X.prog X.w X.K X.mg X.base CX k f fd ps sp) (hr : Room k X.A) (hb : KBinds X.K fd ps ks g gV) (hx : PassesAt CX X σ (E σ))
    (I : Inv X pins σ H s) (r : Vals vs us) (rz : Vals zs ws) (h : sp (gV vs zs) H Q (E σ)) : wpAny (model X.prog X.w) X.A (call (.ref f) us (ks.zip ws)) (EP X pins σ Q) X.xe s := by
  have r2 := hb.rel r rz
  have hl : (g us ws).length = ps.length := by rw [← r2.length]; exact F.len _ _ _ _ h
  refine wpAny_call (codeAny_mono (F.run X.A X.stack s H ⟨us, ks.zip ws⟩ (g us ws) (gV vs zs) Q (E σ) hr I.env0 (hb.to s us ws I.kIn hl) r2 h) fun r s' hq => ?_)
  cases r with
  | error e => exact hx pins H s e s' I hq
  | ok fl =>
    cases fl with
    | ret u => exact I.after hq
    | next => exact False.elim hq
    | brk => exact False.elim hq
    | cont => exact False.elim hq
theorem pe_callKS (F : FnOk X.prog X.w X.K X.mg X.base CX k f fd ps sp) (hr : Room k X.A) (hg : Gl X x) (hm : X.mg x = some (.ref f)) (hk : PySem.W.keepIn X.K (.ref f) = true) (hb : KBinds X.K fd ps ks g gV) (hx : ∀ σ, PassesAt CX X σ (E σ))
    (ha : PA X (e :: es) t) (hkw : PK X kws tk) (hall : (backToKw pos (keywordEach kws X.env)).all (·.1.isSome) = true := by rfl) (hks : (backToKw pos (keywordEach kws X.env)).filterMap (·.1) = ks := by rfl)
    (hdb : (x == ("__debug__" : Str)) = false := by decide) (he : starEach (e :: es) X.env = (false, eval e X.env) :: starEach es X.env := by rfl)
    (hpl : ((backTo pos (starEach (e :: es) X.env)).any (·.1) || (backToKw pos (keywordEach kws X.env)).any (·.1.isNone)) = false := by rfl) :
    PE X (.Call (.Name x p) (e :: es) kws pos) (tCallKS sp gV E t tk) := by
  refine ⟨fun pins s σ H Q I h => ?_⟩
  refine wpAny_Call_Name_kw (ld_glob I hg hm ?_ hdb)
  refine PySem.W.callWith_KW (h₀ := X.base) I.ok.mod.kin hk hall (thn (ha.run pos pins s σ H _ I h) fun us s1 ⟨vs, H1, I1, r, q⟩ => ?_) hpl he
  refine thn (hkw.run pos pins s1 σ H1 _ I1 q) fun ws s2 ⟨zs, H2, I2, rz, q2⟩ => ⟨I2.kIn, ?_⟩
  rw [hks]
  exact run_fnks F hr hb (hx σ) I2 r rz q2
end
end L2

set_option Elab.async false
set_option linter.all false
set_option maxRecDepth 100000
set_option maxHeartbeats 4000000
namespace K7
open PySem PySem.Spec PyProof.Rows L2 GX
def topS (i : Nat) : Stmt := PySem.Challenge.pw_guardrungs_k24_rules.main.body.getD i (.Pass ⟨0, 0, 0, 0⟩)
abbrev sRow : Stmt := inClass (topS 2) 0
abbrev sNum : Stmt := inClass (topS 3) 0
abbrev sWhole : Stmt := topS 5
abbrev sBit : Stmt := topS 6
abbrev sListed : Stmt := topS 7
abbrev sBits : Stmt := topS 8
abbrev sDelayed : Stmt := topS 10
abbrev sIsRow : Stmt := topS 13
abbrev sTold : Stmt := topS 14
abbrev sCkDelay : Stmt := topS 15
abbrev sCkRow : Stmt := topS 16
abbrev sWorked : Stmt := topS 17
abbrev sRowBits0 : Stmt := topS 18
abbrev sRowBits : Stmt := topS 19
abbrev sRuleAt : Stmt := topS 20
abbrev sRules0 : Stmt := topS 21
abbrev sUsed : Stmt := topS 22
abbrev sOne0 : Stmt := topS 23
abbrev sNormal0 : Stmt := topS 24
abbrev sNormal : Stmt := topS 25
abbrev sOne : Stmt := topS 26
abbrev sRulesAt : Stmt := topS 27
abbrev sUse : Stmt := topS 28
abbrev sLNums : Stmt := topS 30
abbrev sLDraw : Stmt := topS 31
abbrev sLInt : Stmt := topS 32
abbrev sLBitsOk : Stmt := topS 33
abbrev sLClocks : Stmt := topS 34
abbrev sLRuns : Stmt := topS 35
abbrev sLOut : Stmt := topS 36
abbrev sLRule : Stmt := topS 37
abbrev sLRules : Stmt := topS 38
abbrev sLBehind : Stmt := topS 39
abbrev sLSums : Stmt := topS 40
abbrev sLPair : Stmt := topS 41
abbrev sLFirst : Stmt := topS 42
abbrev sLListed : Stmt := topS 43
abbrev sLTurn : Stmt := topS 44
abbrev sLWord : Stmt := topS 45
abbrev sLRefusals : Stmt := topS 46
abbrev sLaw : Stmt := topS 47
theorem scWhole : FnScope ["value", "least", "most"] ["value", "least", "most"] (defScope sWhole) := ⟨rfl, rfl, rfl, by decide +kernel, rfl, by decide +kernel, by decide +kernel⟩
theorem scBit : FnScope ["value"] ["value"] (defScope sBit) := ⟨rfl, rfl, rfl, by decide +kernel, rfl, by decide +kernel, by decide +kernel⟩
theorem scListed : FnScope ["value"] ["value"] (defScope sListed) := ⟨rfl, rfl, rfl, by decide +kernel, rfl, by decide +kernel, by decide +kernel⟩
theorem scBits : FnScope ["row", "place", "bit"] ["row"] (defScope sBits) := ⟨rfl, rfl, rfl, by decide +kernel, rfl, by decide +kernel, by decide +kernel⟩
theorem scDelayed : FnScope ["bits", "d", "row", "late"] ["bits", "d"] (defScope sDelayed) := ⟨rfl, rfl, rfl, by decide +kernel, rfl, by decide +kernel, by decide +kernel⟩
theorem scIsRow : FnScope ["row", "pair"] ["row"] (defScope sIsRow) := ⟨rfl, rfl, rfl, by decide +kernel, rfl, by decide +kernel, by decide +kernel⟩
theorem scTold : FnScope ["row", "word", "pair"] ["row", "word"] (defScope sTold) := ⟨rfl, rfl, rfl, by decide +kernel, rfl, by decide +kernel, by decide +kernel⟩
theorem scCkDelay : FnScope ["delay", "word"] ["delay", "word"] (defScope sCkDelay) := ⟨rfl, rfl, rfl, by decide +kernel, rfl, by decide +kernel, by decide +kernel⟩
theorem scCkRow : FnScope ["row"] ["row"] (defScope sCkRow) := ⟨rfl, rfl, rfl, by decide +kernel, rfl, by decide +kernel, by decide +kernel⟩
theorem scWorked : FnScope ["kind", "number", "bits", "wanted", "met", "told", "bit"] ["kind", "number", "bits"] (defScope sWorked) := ⟨rfl, rfl, rfl, by decide +kernel, rfl, by decide +kernel, by decide +kernel⟩
theorem scRowBits0 : FnScope ["row", "bits", "delay", "kind", "number"] ["row", "bits", "delay"] (defScope sRowBits0) := ⟨rfl, rfl, rfl, by decide +kernel, rfl, by decide +kernel, by decide +kernel⟩
theorem scRuleAt : FnScope ["row", "place"] ["row", "place"] (defScope sRuleAt) := ⟨rfl, rfl, rfl, by decide +kernel, rfl, by decide +kernel, by decide +kernel⟩
theorem scRules0 : FnScope ["row", "told", "place", "rule"] ["row"] (defScope sRules0) := ⟨rfl, rfl, rfl, by decide +kernel, rfl, by decide +kernel, by decide +kernel⟩
theorem scUsed : FnScope ["row", "delay", "place", "rule", "kind", "first", "second_kind", "second", "third"] ["row", "delay", "place", "rule"] (defScope sUsed) := ⟨rfl, rfl, rfl, by decide +kernel, rfl, by decide +kernel, by decide +kernel⟩
theorem scOne0 : FnScope ["row", "delay", "rules", "first", "pair", "place", "rule"] ["row", "delay"] (defScope sOne0) := ⟨rfl, rfl, rfl, by decide +kernel, rfl, by decide +kernel, by decide +kernel⟩
theorem scNormal0 : FnScope ["row", "delay", "told", "_"] ["row", "delay"] (defScope sNormal0) := ⟨rfl, rfl, rfl, by decide +kernel, rfl, by decide +kernel, by decide +kernel⟩
theorem scOne : FnScope ["row", "delay", "told"] ["row", "delay"] (defScope sOne) := ⟨rfl, rfl, rfl, by decide +kernel, rfl, by decide +kernel, by decide +kernel⟩
theorem scRulesAt : FnScope ["row"] ["row"] (defScope sRulesAt) := ⟨rfl, rfl, rfl, by decide +kernel, rfl, by decide +kernel, by decide +kernel⟩
theorem scUse : FnScope ["row", "delay", "place", "told"] ["row", "delay", "place"] (defScope sUse) := ⟨rfl, rfl, rfl, by decide +kernel, rfl, by decide +kernel, by decide +kernel⟩
end K7

set_option Elab.async false
set_option linter.all false
set_option maxRecDepth 100000
set_option maxHeartbeats 4000000
namespace K7
open PySem PySem.Spec PyProof.Rows L2 GX
/-- the built-in names are still the built-ins -/
structure Bl (mg : Str → Option Value) : Prop where
  isi : mg "isinstance" = none
  int : mg "int" = none
  bool : mg "bool" = none
  list : mg "list" = none
  tuple : mg "tuple" = none
  len : mg "len" = none
  range : mg "range" = none
  enum : mg "enumerate" = none
  min : mg "min" = none
  sum : mg "sum" = none
theorem same_upd {H : Hp} {p : Addr} {o : HO} (h : H p = none) : Same H (upd H p o) := fun b x e => by
  rw [upd_ne (ne_of_none e h)]
  exact e
/-- a list or a tuple of ours -/
def Sq (H : Hp) (a : Addr) (xs : List V) : Prop := H a = some (.lst xs) ∨ H a = some (.tup xs)
theorem Sq.same {H H' : Hp} {a : Addr} {xs : List V} (s : Same H H') (h : Sq H a xs) : Sq H' a xs := h.elim (fun z => .inl (s _ _ z)) fun z => .inr (s _ _ z)
theorem sqL {K : PySem.W.Frag} {H : Hp} {a : Addr} {xs : List V} (h : H a = some (.lst xs)) : SqL K H a xs := .inl (.inl h)
theorem sqT {K : PySem.W.Frag} {H : Hp} {a : Addr} {xs : List V} (h : H a = some (.tup xs)) : SqT K H a xs := .inl (.inl h)
theorem Sq.lt {K : PySem.W.Frag} {H : Hp} {a : Addr} {xs : List V} (h : Sq H a xs) : SqL K H a xs ∨ SqT K H a xs := h.elim (fun z => .inl (sqL z)) fun z => .inr (sqT z)
theorem Sq.ty {K : PySem.W.Frag} {H : Hp} {a : Addr} {xs : List V} (h : Sq H a xs) : TyX K H (.ref a) (.type "list") ∨ TyX K H (.ref a) (.type "tuple") := h.elim (fun z => .inl (.base (.lst z))) fun z => .inr (.base (.tup z))
theorem new_ne {H : Hp} {a p : Addr} {o : HO} (h : H a = some o) (np : H p = none) : a ≠ p := ne_of_none h np
/-- a walk of a list or a tuple -/
def iSeq (K : PySem.W.Frag) (tl : TE) : TI := fun σ H R => tl σ H fun x H1 => ∃ a xs, x = .ref a ∧ ((SqL K H1 a xs ∧ R (Itl K a) H1) ∨ (SqT K H1 a xs ∧ R (Itt K a) H1))
theorem pi_seq {X : Cx} {tg l : Expr} {tl : TE} (hl : PE X l tl) : PI X tg l (iSeq X.K tl) := by
  refine ⟨fun pins s σ H R I h => ?_⟩
  refine thn (hl.run pins s σ H _ I h) fun v s1 ⟨x, H1, I1, r1, q1⟩ => ?_
  obtain ⟨a, xs, e, q⟩ := q1
  subst e
  cases r1
  rcases q with ⟨hq, q⟩ | ⟨hq, q⟩
  · obtain ⟨its, rv, p, hz⟩ := I1.list hq
    refine wpAny_pyIter_list p.isList ?_
    refine ⟨s1.heap.objs.size, [s1.heap.objs.size], _, _, H1, rfl, I1.kept (t' := s1.toks) fun b o e => Heap.get?_push_of_some _ e, turn_list a _, ⟨_, Heap.get?_push_size _ rfl, rfl, rfl⟩, fun b hb => ?_, q⟩
    have e : b = s1.heap.objs.size := by simpa using hb
    subst e
    exact I1.fpOk (Nat.le_refl _) (I1.hok.fresh (Nat.le_refl _))
  · obtain ⟨its, rv, p, hz⟩ := I1.tuple hq
    refine wpAny_pyIter_tuple (show s1.heap.IsTuple a its.toArray from p) ?_
    refine ⟨s1.heap.objs.size, [s1.heap.objs.size], _, _, H1, rfl, I1.kept (t' := s1.toks) fun b o e => Heap.get?_push_of_some _ e, turn_tuple a _, ⟨_, Heap.get?_push_size _ rfl, rfl, rfl⟩, fun b hb => ?_, q⟩
    have e : b = s1.heap.objs.size := by simpa using hb
    subst e
    exact I1.fpOk (Nat.le_refl _) (I1.hok.fresh (Nat.le_refl _))
section
variable {P : Program} {w : World} {K : PySem.W.Frag} {mg : Str → Option Value} {base : Heap}
/-! ### is_whole -/
def wholeV (l m : Int) : V → Bool
  | .int i => decide (l ≤ i) && decide (i ≤ m)
  | _ => false
def spWhole : Sp := fun vs H Q _ => ∃ (x : V) (l m : Int), vs = [x, .int l, .int m] ∧ ((∃ i, x = .int i) ∨ ∃ b, x = .bl b) ∧ Q (.bl (wholeV l m x)) H
theorem ok_whole {f : Addr} {fd : FuncData} {k : Nat} (F : Fun K "is_whole" "is_whole" sWhole f fd) (B : Bl mg) : FnOk P w K mg base CX0 (k + 1) f fd ["value", "least", "most"] spWhole := by
  refine F.ok scWhole (fun vs H Q E h => ?_) (fun cdv A outer s H vs Q E hr h => ?_)
  · obtain ⟨x, l, m, rfl, _⟩ := h
    rfl
  · obtain ⟨x, l, m, rfl, hx, q⟩ := h
    refine ⟨_, pss_cons (ps_if (PW.pt (pw_or (pt_not (pt_val (pe_callB call_isi (by rfl) B.isi (by decide +kernel) (pa_cons (pv 0) (pa_cons (pe_bltn (v := .ty "int") (u := .type "int") (by rfl) B.int (by decide +kernel) rfl) pa_nil)))))
        (pw_or1 (pt_val (pe_callB call_isi (by rfl) B.isi (by decide +kernel) (pa_cons (pv 0) (pa_cons (pe_bltn (v := .ty "bool") (u := .type "bool") (by rfl) B.bool (by decide +kernel) rfl) pa_nil))))))) (pss_one (ps_ret pe_bl)) pss_nil)
      (pss_one (ps_ret (pe_and (pe_cmpR op_le (pv 1) (pv 0) (nomark _)) (pe_one (pe_or (pe_cmpR op_isN (pv 2) pe_non (nomark _)) (pe_one (pe_cmpR op_le (pv 0) (pv 2) (nomark _)))))))), ?_⟩
    rcases hx with ⟨i, rfl⟩ | ⟨b, rfl⟩
    · refine ⟨_, rfl, _, _, .type "int", _, true, rfl, .ty "int", .base (.int i), kit_ty (by decide +kernel), true, rfl, iteF ?_⟩
      refine ⟨_, rfl, _, _, .type "int", _, false, rfl, .ty "bool", .base (.int i), kit_ty (by decide +kernel), false, rfl, iteF ?_⟩
      refine ⟨_, rfl, _, rfl, _, _, rfl, rfl, _, rfl, ?_⟩
      have q : Q (.bl (decide (l ≤ i) && decide (i ≤ m))) H := q
      by_cases h1 : l ≤ i
      · rw [decide_eq_true h1] at q ⊢
        refine iteT ⟨_, rfl, rfl, false, rfl, iteF ⟨_, rfl, _, rfl, _, _, rfl, rfl, ?_⟩⟩
        rw [Bool.true_and] at q
        exact q
      · rw [decide_eq_false h1] at q ⊢
        exact iteF q
    · refine ⟨_, rfl, _, _, .type "bool", _, true, rfl, .ty "int", .base (.bl b), kit_ty (by decide +kernel), true, rfl, iteF ?_⟩
      refine ⟨_, rfl, _, _, .type "bool", _, true, rfl, .ty "bool", .base (.bl b), kit_ty (by decide +kernel), true, rfl, iteT q⟩
/-! ### is_listed -/
/-- what is no list and no tuple -/
def Scal (x : V) : Prop := x = .non ∨ (∃ i, x = .int i) ∨ ∃ z, x = .str z
def spListed : Sp := fun vs H Q _ => ∃ x : V, vs = [x] ∧ ((∃ a xs, x = .ref a ∧ Sq H a xs ∧ ∀ H', Same H H' → Q (.bl true) H') ∨ (Scal x ∧ ∀ H', Same H H' → Q (.bl false) H'))
theorem ok_listed {f : Addr} {fd : FuncData} {k : Nat} (F : Fun K "is_listed" "is_listed" sListed f fd) (B : Bl mg) : FnOk P w K mg base CX0 (k + 1) f fd ["value"] spListed := by
  refine F.ok scListed (fun vs H Q E h => ?_) (fun cdv A outer s H vs Q E hr h => ?_)
  · obtain ⟨x, rfl, _⟩ := h
    rfl
  · obtain ⟨x, rfl, hx⟩ := h
    refine ⟨_, pss_one (ps_ret (pe_callB call_isiT (by rfl) B.isi (by decide +kernel) (pa_cons (pv 0) (pa_cons (pe_tup (pa_cons (pe_bltn (v := .ty "list") (u := .type "list") (by rfl) B.list (by decide +kernel) rfl)
      (pa_cons (pe_bltn (v := .ty "tuple") (u := .type "tuple") (by rfl) B.tuple (by decide +kernel) rfl) pa_nil))) pa_nil)))), ?_⟩
    refine ⟨x, rfl, by show 2 ≤ sizeLine; decide, fun p np => ?_⟩
    have s1 : Same H (upd H p (.tup [.ty "list", .ty "tuple"])) := same_upd np
    have cl : Paired ClsV [.ty "list", .ty "tuple"] [.type "list", .type "tuple"] := .cons (.ty "list") (.cons (.ty "tuple") .nil)
    rcases hx with ⟨a, xs, rfl, hs, q⟩ | ⟨hs, q⟩
    · rcases hs with hs | hs
      · exact ⟨_, p, _, .type "list", _, true, rfl, upd_same, cl, .base (.lst (s1 _ _ hs)), kitAny_cons (b := true) (kit_ty (by decide +kernel)) (fun z => by cases z) (fun _ => rfl), q _ s1⟩
      · exact ⟨_, p, _, .type "tuple", _, true, rfl, upd_same, cl, .base (.tup (s1 _ _ hs)), kitAny_cons (b := false) (kit_ty (by decide +kernel)) (fun _ => kitAny_cons (b := true) (kit_ty (by decide +kernel)) (fun z => by cases z) (fun _ => rfl)) (fun z => by cases z), q _ s1⟩
    · rcases hs with rfl | ⟨i, rfl⟩ | ⟨z, rfl⟩
      · exact ⟨_, p, _, .type "NoneType", _, false, rfl, upd_same, cl, .base .non, kitAny_cons (b := false) (kit_ty (by decide +kernel)) (fun _ => kitAny_cons (b := false) (kit_ty (by decide +kernel)) (fun _ => kitAny_nil) (fun z => by cases z)) (fun z => by cases z), q _ s1⟩
      · exact ⟨_, p, _, .type "int", _, false, rfl, upd_same, cl, .base (.int i), kitAny_cons (b := false) (kit_ty (by decide +kernel)) (fun _ => kitAny_cons (b := false) (kit_ty (by decide +kernel)) (fun _ => kitAny_nil) (fun z => by cases z)) (fun z => by cases z), q _ s1⟩
      · exact ⟨_, p, _, .type "str", _, false, rfl, upd_same, cl, .base (.str z), kitAny_cons (b := false) (kit_ty (by decide +kernel)) (fun _ => kitAny_cons (b := false) (kit_ty (by decide +kernel)) (fun _ => kitAny_nil) (fun z => by cases z)) (fun z => by cases z), q _ s1⟩
end
end K7

set_option Elab.async false
set_option linter.all false
set_option maxRecDepth 100000
set_option maxHeartbeats 4000000
namespace K7
open PySem PySem.Spec PyProof.Rows L2 GX NdefX
theorem lcGen {J : It} {n : Nat} {g : TG} {tt : TT} {te : TE} {vs : List Nat} {σ : L2.St} {H1 : Hp} {D : Addr} {Qd : Hp → Prop} (keep : Nat → Bool) (vals : Nat → V) (nD : H1 D = none) (hn : n ≤ 4000)
    (go : ∀ i H, i < n → Same H1 H → J.go i H) (stop : ∀ H, Same H1 H → J.stop n H)
    (turn : ∀ i x H H' (Qk : VK) (Qn : Hp → Prop), i < n → Same H1 H → J.yld i H x H' → (∀ H4, Same H H4 → keep i = true → Qk (vals i) H4) → (∀ H4, Same H H4 → keep i = false → Qn H4) →
      g x (wipe σ vs) H' fun σ2 H2 => wipe σ2 vs = wipe σ vs ∧ tt σ2 H2 fun b H3 => if b = true then te σ2 H3 Qk else Qn H3)
    (done : ∀ H, Same H1 H → H D = some (.lst (((List.range n).filter keep).map vals)) → Qd H) :
    ∃ W : Nat → Nat → Hp → Prop, (∃ m, W 0 m (upd H1 D (.lst []))) ∧ ∀ i m H, W i m H →
      (J.stop i H ∧ Qd H) ∨ (J.go i H ∧ ∃ Nx : Hp → Prop, (∀ H', Nx H' → ∃ m', m' < m ∧ W (i + 1) m' H') ∧ ∀ x H', J.yld i H x H' → g x (wipe σ vs) H' fun σ2 H2 => wipe σ2 vs = wipe σ vs ∧ tt σ2 H2 fun b H3 =>
        if b = true then te σ2 H3 fun y H4 => ∃ acc, H4 D = some (.lst acc) ∧ acc.length < sizeLine ∧ Nx (upd H4 D (.lst (acc ++ [y]))) else Nx H3) := by
  refine ⟨fun i m H => m = n - i ∧ i ≤ n ∧ Same H1 H ∧ H D = some (.lst (((List.range i).filter keep).map vals)), ⟨n, rfl, Nat.zero_le _, same_upd nD, upd_same⟩, ?_⟩
  rintro i m H ⟨rfl, hi, sm, eD⟩
  by_cases hlt : i < n
  · refine .inr ⟨go i H hlt sm, fun H' => Same H1 H' ∧ H' D = some (.lst (((List.range (i + 1)).filter keep).map vals)), fun H' p => ⟨n - (i + 1), by omega, rfl, hlt, p.1, p.2⟩, fun x H' y => ?_⟩
    refine turn i x H H' _ _ hlt sm y (fun H4 s4 hk => ⟨_, s4 _ _ eD, ?_, ?_, ?_⟩) (fun H4 s4 hk => ⟨sm.trans s4, ?_⟩)
    · rw [List.length_map]
      have h1 := List.length_filter_le keep (List.range i)
      rw [List.length_range] at h1
      rw [sizeLine_eq]
      omega
    · exact fun b o e => by
        rw [upd_ne (ne_of_none e nD)]
        exact s4 _ _ (sm _ _ e)
    · rw [upd_same, List.range_succ, List.filter_append, List.map_append]
      simp [hk]
    · rw [s4 _ _ eD, List.range_succ, List.filter_append, List.map_append]
      simp [hk]
  · have e : i = n := by omega
    subst e
    exact .inl ⟨stop H sm, done H sm eD⟩
theorem lcMap {J : It} {n : Nat} {g : TG} {te : TE} {vs : List Nat} {σ : L2.St} {H1 : Hp} {D : Addr} {Qd : Hp → Prop} (vals : Nat → V) (nD : H1 D = none) (hn : n ≤ 4000)
    (go : ∀ i H, i < n → Same H1 H → J.go i H) (stop : ∀ H, Same H1 H → J.stop n H)
    (turn : ∀ i x H H' (Qk : VK) (Qn : Hp → Prop), i < n → Same H1 H → J.yld i H x H' → (∀ H4, Same H H4 → Qk (vals i) H4) → g x (wipe σ vs) H' fun σ2 H2 => wipe σ2 vs = wipe σ vs ∧ tYes σ2 H2 fun b H3 => if b = true then te σ2 H3 Qk else Qn H3)
    (done : ∀ H, Same H1 H → H D = some (.lst ((List.range n).map vals)) → Qd H) :
    ∃ W : Nat → Nat → Hp → Prop, (∃ m, W 0 m (upd H1 D (.lst []))) ∧ ∀ i m H, W i m H →
      (J.stop i H ∧ Qd H) ∨ (J.go i H ∧ ∃ Nx : Hp → Prop, (∀ H', Nx H' → ∃ m', m' < m ∧ W (i + 1) m' H') ∧ ∀ x H', J.yld i H x H' → g x (wipe σ vs) H' fun σ2 H2 => wipe σ2 vs = wipe σ vs ∧ tYes σ2 H2 fun b H3 =>
        if b = true then te σ2 H3 fun y H4 => ∃ acc, H4 D = some (.lst acc) ∧ acc.length < sizeLine ∧ Nx (upd H4 D (.lst (acc ++ [y]))) else Nx H3) :=
  lcGen (tt := tYes) (fun _ => true) vals nD hn go stop (fun i x H H' Qk Qn h1 h2 h3 h4 _ => turn i x H H' Qk Qn h1 h2 h3 fun H4 s4 => h4 H4 s4 rfl)
    (fun H s e => done H s (by rw [e, List.filter_eq_self.mpr (fun _ _ => rfl)]))
def LcR (J : It) (g : TG) (tt : TT) (te : TE) (vs : List Nat) (σ : L2.St) (H1 : Hp) (Q : VK) : Prop := ∀ D, H1 D = none → ∃ W : Nat → Nat → Hp → Prop, (∃ m, W 0 m (upd H1 D (.lst []))) ∧ ∀ i m H, W i m H →
  (J.stop i H ∧ Q (.ref D) H) ∨ (J.go i H ∧ ∃ Nx : Hp → Prop, (∀ H', Nx H' → ∃ m', m' < m ∧ W (i + 1) m' H') ∧ ∀ x H', J.yld i H x H' → g x (wipe σ vs) H' fun σ2 H2 => wipe σ2 vs = wipe σ vs ∧ tt σ2 H2 fun b H3 =>
    if b = true then te σ2 H3 fun y H4 => ∃ acc, H4 D = some (.lst acc) ∧ acc.length < sizeLine ∧ Nx (upd H4 D (.lst (acc ++ [y]))) else Nx H3)
theorem map_getD {α : Type} (f : V → α) (d : V) : ∀ xs : List V, (List.range xs.length).map (fun i => f (xs.getD i d)) = xs.map f
  | [] => rfl
  | x :: r => by
    rw [List.length_cons, List.range_succ_eq_map, List.map_cons, List.map_map, List.map_cons]
    exact congrArg (f x :: ·) (map_getD f d r)
theorem lcSeq {K : PySem.W.Frag} {a : Addr} {xs : List V} {g : TG} {te : TE} {vs : List Nat} {σ : L2.St} {H1 : Hp} {Q : VK} (vals : V → V) (hq : Sq H1 a xs) (hn : xs.length ≤ 4000)
    (turn : ∀ (i : Nat) (x : V) (H : Hp) (Qk : VK) (Qn : Hp → Prop), xs[i]? = some x → Same H1 H → (∀ H4, Same H H4 → Qk (vals x) H4) → g x (wipe σ vs) H fun σ2 H2 => wipe σ2 vs = wipe σ vs ∧ tYes σ2 H2 fun b H3 => if b = true then te σ2 H3 Qk else Qn H3)
    (done : ∀ D H, H1 D = none → Same H1 H → H D = some (.lst (xs.map vals)) → Q (.ref D) H) :
    (SqL K H1 a xs ∧ LcR (Itl K a) g tYes te vs σ H1 Q) ∨ (SqT K H1 a xs ∧ LcR (Itt K a) g tYes te vs σ H1 Q) := by
  have gd : ∀ {i : Nat} {x : V}, xs[i]? = some x → xs.getD i .non = x := fun {i x} h => by
    rw [List.getD_eq_getElem?_getD, h]
    rfl
  rcases hq with hq | hq
  · refine .inl ⟨sqL hq, fun D nD => lcMap (n := xs.length) (fun i => vals (xs.getD i .non)) nD hn (fun i H h s => ⟨xs, xs[i], sqL (s _ _ hq), List.getElem?_eq_getElem h⟩) (fun H s => ⟨xs, sqL (s _ _ hq), Nat.le_refl _⟩)
      (fun i x H H' Qk Qn h s y hk => ?_) (fun H s e => done D H nD s (by rw [e, map_getD]))⟩
    obtain ⟨rfl, y⟩ := y
    have hx := y xs (sqL (s _ _ hq))
    exact turn i x _ Qk Qn hx s fun H4 s4 => by
      have z := hk H4 s4
      rw [gd hx] at z
      exact z
  · refine .inr ⟨sqT hq, fun D nD => lcMap (n := xs.length) (fun i => vals (xs.getD i .non)) nD hn (fun i H h s => ⟨xs, xs[i], sqT (s _ _ hq), List.getElem?_eq_getElem h⟩) (fun H s => ⟨xs, sqT (s _ _ hq), Nat.le_refl _⟩)
      (fun i x H H' Qk Qn h s y hk => ?_) (fun H s e => done D H nD s (by rw [e, map_getD]))⟩
    obtain ⟨rfl, y⟩ := y
    have hx := y xs (sqT (s _ _ hq))
    exact turn i x _ Qk Qn hx s fun H4 s4 => by
      have z := hk H4 s4
      rw [gd hx] at z
      exact z
theorem PE.imp {X : Cx} {e : Expr} {t t' : TE} (h : PE X e t) (i : ∀ σ H Q, t' σ H Q → t σ H Q) : PE X e t' := ⟨fun pins s σ H Q I q => h.run pins s σ H Q I (i σ H Q q)⟩
theorem PS.imp {X : Cx} {e : Stmt} {t t' : TS} (h : PS X e t) (i : ∀ D σ H, t' D σ H → t D σ H) : PS X e t' := ⟨fun pins s σ H D I q => h.run pins s σ H D I (i D σ H q)⟩
theorem wipe1 (σ : L2.St) (c : Nat) (x : V) : (wipe σ [c]).set c (some x) = σ.set c (some x) := by
  show (σ.set c none).set c (some x) = _
  rw [List.set_set]
theorem wipe2 (σ : L2.St) (c : Nat) (x : V) : wipe (σ.set c (some x)) [c] = wipe σ [c] := by
  show (σ.set c (some x)).set c none = σ.set c none
  rw [List.set_set]
def tMapSeq (j c : Nat) (te : TE) : TE := fun σ H Q => ∃ (a : Addr) (xs : List V) (vals : V → V), σ[j]? = some (some (.ref a)) ∧ Sq H a xs ∧ xs.length ≤ 4000 ∧
  (∀ (i : Nat) (x : V) (H2 : Hp) (Qk : VK), xs[i]? = some x → Same H H2 → (∀ H4, Same H2 H4 → Qk (vals x) H4) → te (σ.set c (some x)) H2 Qk) ∧
  ∀ D H', H D = none → Same H H' → H' D = some (.lst (xs.map vals)) → Q (.ref D) H'
theorem tMapSeq_ok {K : PySem.W.Frag} {j c : Nat} {te : TE} {σ : L2.St} {H : Hp} {Q : VK} (h : tMapSeq j c te σ H Q) : tLc (iSeq K (tVar j)) (gName c) tYes te [c] σ H Q := by
  obtain ⟨a, xs, vals, hj, hq, hn, turn, done⟩ := h
  refine ⟨.ref a, hj, a, xs, rfl, lcSeq (g := gName c) (te := te) (vs := [c]) (σ := σ) (Q := Q) vals hq hn (fun i x H2 Qk Qn hx s hk => ?_) done⟩
  show wipe ((wipe σ [c]).set c (some x)) [c] = wipe σ [c] ∧ (if true = true then te ((wipe σ [c]).set c (some x)) H2 Qk else Qn H2)
  rw [wipe1, wipe2]
  exact ⟨rfl, iteT (turn i x H2 Qk hx s hk)⟩
theorem getD_of {xs : List V} {i : Nat} {x d : V} (h : xs[i]? = some x) : xs.getD i d = x := by
  rw [List.getD_eq_getElem?_getD, h]
  rfl
theorem dpInts {K : PySem.W.Frag} {H : Hp} : ∀ ns : List Int, DpAll K H (ns.map V.int) (ns.map PyData.int)
  | [] => .nil
  | i :: r => .cons (.int i) (dpInts r)
theorem canInts : ∀ ns : List Int, PyData.canLayAll0 (ns.map PyData.int) = true
  | [] => rfl
  | i :: r => by
    show (PyData.canLay0 (.int i) && PyData.canLayAll0 (r.map PyData.int)) = true
    rw [canInts r]
    rfl
theorem depInts : ∀ ns : List Int, PyData.depthAll (ns.map PyData.int) = 0
  | [] => rfl
  | i :: r => by
    show max 0 (PyData.depthAll (r.map PyData.int)) = 0
    rw [depInts r]
    rfl
theorem eqvInts : ∀ xs ys : List Int, PyData.eqvAll (xs.map PyData.int) (ys.map PyData.int) = decide (xs = ys)
  | [], [] => by simp [PyData.eqvAll]
  | [], _ :: _ => by simp [PyData.eqvAll]
  | _ :: _, [] => by simp [PyData.eqvAll]
  | x :: xs, y :: ys => by
    rw [List.map_cons, List.map_cons, PyData.eqvAll, eqvInts xs ys, PyData.eqv]
    by_cases h : x = y
    · subst h
      by_cases h2 : xs = ys <;> simp [h2]
    · simp [h]
theorem cut1 (xs : List V) : cutV xs (some 1) none = xs.tail := by
  unfold cutV
  rw [show (some (1 : Int)) = some ((1 : Nat) : Int) from rfl, HT.sIx_nat]
  show List.take (xs.length - min 1 xs.length) (List.drop (min 1 xs.length) xs) = _
  cases xs with
  | nil => rfl
  | cons x r =>
    rw [show min 1 (x :: r).length = 1 by rw [List.length_cons]; omega]
    show List.take (r.length + 1 - 1) r = r
    rw [List.take_of_length_le (by omega)]
def Rai (E : XK) (C : Addr) (H : Hp) (fs : List (Str × V)) : Prop := ∀ d H', Same H H' → H' d = some (.xd fs) → E (.ref C) (some d) H'
theorem Rai.same {E : XK} {C : Addr} {H H1 : Hp} {fs : List (Str × V)} (h : Rai E C H fs) (s : Same H H1) : Rai E C H1 fs := fun d H' s' e => h d H' (s.trans s') e
theorem xsame {H1 : Hp} {a dx : Addr} {H2 : Hp} {o : HO} (na : H1 a = none) (nd : H1 dx = none) (k : ∀ b, b ≠ a → b ≠ dx → H2 b = H1 b) : Same H1 (upd (del H2 a) dx o) := fun b x e => by
  have h1 := ne_of_none e na
  have h2 := ne_of_none e nd
  rw [upd_ne h2, del_ne h1, k b h1 h2]
  exact e
def ForR (J : It) (g : TG) (tb : TS) (D : Ends) (σ : L2.St) (H : Hp) : Prop := ∃ W : Nat → Nat → L2.St → Hp → Prop, (∃ m, W 0 m σ H) ∧ ∀ i m σ H, W i m σ H →
  (J.stop i H ∧ D.nx σ H) ∨ (J.go i H ∧ ∃ N : L2.St → Hp → Prop, (∀ σ' H', N σ' H' → ∃ m', m' < m ∧ W (i + 1) m' σ' H') ∧ ∀ x H', J.yld i H x H' → g x σ H' fun σ2 H2 => tb { nx := N, rt := D.rt, bk := D.nx, ct := N } σ2 H2)
theorem forGen {J : It} {n : Nat} {g : TG} {tb : TS} {D : Ends} {σ : L2.St} {H : Hp} (Pv : Nat → L2.St → Hp → Prop) (h0 : Pv 0 σ H) (go : ∀ i σ H, i < n → Pv i σ H → J.go i H) (stop : ∀ σ H, Pv n σ H → J.stop n H)
    (turn : ∀ i x σ H H', i < n → Pv i σ H → J.yld i H x H' → g x σ H' fun σ2 H2 => tb { nx := Pv (i + 1), rt := D.rt, bk := D.nx, ct := Pv (i + 1) } σ2 H2) (done : ∀ σ H, Pv n σ H → D.nx σ H) : ForR J g tb D σ H := by
  refine ⟨fun i m σ H => m = n - i ∧ i ≤ n ∧ Pv i σ H, ⟨n, rfl, Nat.zero_le _, h0⟩, ?_⟩
  rintro i m σ H ⟨rfl, hi, p⟩
  by_cases hlt : i < n
  · exact .inr ⟨go i σ H hlt p, Pv (i + 1), fun σ' H' q => ⟨n - (i + 1), by omega, rfl, hlt, q⟩, fun x H' y => turn i x σ H H' hlt p y⟩
  · have e : i = n := by omega
    subst e
    exact .inl ⟨stop σ H p, done σ H p⟩
theorem forEnum {K : PySem.W.Frag} {a : Addr} {xs : List V} {g : TG} {tb : TS} {D : Ends} {σ : L2.St} {H : Hp} (Pv : Nat → L2.St → Hp → Prop) (hq : Sq H a xs) (h0 : Pv 0 σ H) (hl : ∀ i σ H' o, Pv i σ H' → H a = some o → H' a = some o)
    (turn : ∀ i x T σ H, xs[i]? = some x → Pv i σ H → H T = none → g (.ref T) σ (upd H T (.tup [.int (i : Nat), x])) fun σ2 H2 => tb { nx := Pv (i + 1), rt := D.rt, bk := D.nx, ct := Pv (i + 1) } σ2 H2) (done : ∀ σ H, Pv xs.length σ H → D.nx σ H) :
    (SqL K H a xs ∧ ForR (Ite K a) g tb D σ H) ∨ (SqT K H a xs ∧ ForR (IteT K a) g tb D σ H) := by
  rcases hq with hq | hq
  · refine .inl ⟨sqL hq, forGen (n := xs.length) Pv h0 (fun i σ H h p => ⟨xs, xs[i], sqL (hl _ _ _ _ p hq), List.getElem?_eq_getElem h⟩) (fun σ H p => ⟨xs, sqL (hl _ _ _ _ p hq), Nat.le_refl _⟩) (fun i x σ H H' hi p y => ?_) done⟩
    obtain ⟨T, x, rfl, nT, rfl, hx⟩ := y
    exact turn i x T σ H (hx xs (sqL (hl _ _ _ _ p hq))) p nT
  · refine .inr ⟨sqT hq, forGen (n := xs.length) Pv h0 (fun i σ H h p => ⟨xs, xs[i], sqT (hl _ _ _ _ p hq), List.getElem?_eq_getElem h⟩) (fun σ H p => ⟨xs, sqT (hl _ _ _ _ p hq), rfl⟩) (fun i x σ H H' hi p y => ?_) done⟩
    obtain ⟨T, x, rfl, nT, rfl, hx⟩ := y
    exact turn i x T σ H (hx xs (sqT (hl _ _ _ _ p hq))) p nT
theorem paired_get {α β : Type} {F : α → β → Prop} {xs : List α} {ys : List β} (p : Paired F xs ys) : ∀ {i : Nat} {x : α}, xs[i]? = some x → ∃ y, ys[i]? = some y ∧ F x y := by
  induction p with
  | nil => intro i x h; simp at h
  | cons f r ih =>
    intro i x h
    cases i with
    | zero =>
      simp at h
      subst h
      exact ⟨_, rfl, f⟩
    | succ i => exact ih h
theorem paired_imp {α β : Type} {F G : α → β → Prop} (k : ∀ x y, F x y → G x y) : ∀ {xs : List α} {ys : List β}, Paired F xs ys → Paired G xs ys
  | _, _, .nil => .nil
  | _, _, .cons f r => .cons (k _ _ f) (paired_imp k r)
theorem drop_get {α : Type} {xs : List α} {i : Nat} {x : α} (h : xs[i]? = some x) : xs.drop i = x :: xs.drop (i + 1) := by
  obtain ⟨hi, rfl⟩ := List.getElem?_eq_some_iff.mp h
  exact List.drop_eq_getElem_cons hi
theorem take_get {α : Type} {xs : List α} {i : Nat} {x : α} (h : xs[i]? = some x) : xs.take (i + 1) = xs.take i ++ [x] := by
  rw [List.take_succ, h]
  rfl
def nts (ns : List Nat) : List V := ns.map fun (n : Nat) => V.int (n : Int)
theorem paired_snoc {α β : Type} {F : α → β → Prop} {xs : List α} {ys : List β} {x : α} {y : β} (p : Paired F xs ys) (f : F x y) : Paired F (xs ++ [x]) (ys ++ [y]) := by
  induction p with
  | nil => exact .cons f .nil
  | cons g r ih => exact .cons g ih
end K7

set_option Elab.async false
set_option linter.all false
set_option maxRecDepth 100000
set_option maxHeartbeats 4000000
namespace K7
open PySem PySem.Spec PyProof.Rows L2 GX NdefX
theorem nsRow : NScope ["self", "place", "__class__"] ["self", "place"] ["__class__"] (defScope sRow) := ⟨rfl, rfl, rfl, by decide +kernel, rfl, by decide +kernel, by decide +kernel, by decide +kernel, by decide +kernel⟩
theorem nsNum : NScope ["self", "word", "__class__"] ["self", "word"] ["__class__"] (defScope sNum) := ⟨rfl, rfl, rfl, by decide +kernel, rfl, by decide +kernel, by decide +kernel, by decide +kernel, by decide +kernel⟩
def spNum (C : Addr) : Sp := fun vs H Q _ => ∃ (a : Addr) (z : Str), vs = [.ref a, .str z] ∧ H a = some (exo a C none) ∧ z.length ≤ 100 ∧
  ∀ dx, H dx = none → dx ≠ a → Q .non (upd (upd H dx (exd dx [("word", .str z)])) a (exo a C (some dx)))
def spRow (C : Addr) : Sp := fun vs H Q _ => ∃ (a : Addr) (i : Int), vs = [.ref a, .int i] ∧ H a = some (exo a C none) ∧ i.natAbs.log2 < 1920 ∧ (Str.ofString (toString i)).length ≤ 100 ∧
  ∀ dx, H dx = none → dx ≠ a → Q .non (upd (upd H dx (exd dx [("place", .int i)])) a (exo a C (some dx)))
theorem lenApp (a b : Str) : (a ++ b).length = a.length + b.length := Array.size_append
section
variable {P : Program} {w : World} {K : PySem.W.Frag} {mg : Str → Option Value} {base : Heap}
theorem ok_num {C f : Addr} {fd : FuncData} {k : Nat} (T : Sup P K mg C f "BadNumber.__init__" sNum fd) (nf : PySem.W.findIn K (.ref C) "word" = some none) : FnOk P w K mg base CX0 (k + 1) f fd ["self", "word"] (spNum C) := by
  refine fn_ofI T nsNum rfl rfl rfl (fun vs H Q E h => ?_) rfl (fun _ _ _ => ⟨rfl, rfl, ⟨_, rfl⟩, rfl, rfl⟩) (fun cc cda A outer s H vs Q E hr h => ?_)
  · obtain ⟨a, z, rfl, _⟩ := h
    rfl
  · obtain ⟨a, z, rfl, ha, hz, q⟩ := h
    refine ⟨a, _, _, _, rfl, ha, pa_cons (pe_joined (PJ.cons pe_str (PJ.cons (pe_fmt (pv 1)) PJ.nil))) pa_nil, pss_one (ps_ost (pv 0) (pv 1)), ?_⟩
    refine ⟨_, rfl, by rw [lenApp]; exact Nat.le_trans (by decide) (Nat.le_refl _), .str z, rfl, .inl ⟨z, rfl, Nat.le_trans hz (by decide), z, rfl, ?_, ha, by show 1 ≤ 1000; decide, ?_⟩⟩
    · rw [lenApp, lenApp]
      have : sizeLine = 16777216 := sizeLine_eq
      have e : (Str.ofString "out of range: ").length = 14 := by decide
      have e2 : Str.empty.length = 0 := by decide
      omega
    · exact ⟨.str z, rfl, .ref a, rfl, a, C, rfl, T.O, nf, .inl ⟨ha, q⟩⟩
theorem ok_rowx {C f : Addr} {fd : FuncData} {k : Nat} (T : Sup P K mg C f "BadRow.__init__" sRow fd) (nf : PySem.W.findIn K (.ref C) "place" = some none) : FnOk P w K mg base CX0 (k + 1) f fd ["self", "place"] (spRow C) := by
  refine fn_ofI T nsRow rfl rfl rfl (fun vs H Q E h => ?_) rfl (fun _ _ _ => ⟨rfl, rfl, ⟨_, rfl⟩, rfl, rfl⟩) (fun cc cda A outer s H vs Q E hr h => ?_)
  · obtain ⟨a, z, rfl, _⟩ := h
    rfl
  · obtain ⟨a, i, rfl, ha, hi, hz, q⟩ := h
    refine ⟨a, _, _, _, rfl, ha, pa_cons (pe_joined (PJ.cons pe_str (PJ.cons (pe_fmt (pv 1)) (PJ.cons pe_str PJ.nil)))) pa_nil, pss_one (ps_ost (pv 0) (pv 1)), ?_⟩
    have e1 : (Str.ofString "no row of bits of the wanted length (place ").length = 43 := by decide
    have e2 : Str.empty.length = 0 := by decide
    have e3 : (Str.ofString ")").length = 1 := by decide
    have e4 : sizeLine = 16777216 := sizeLine_eq
    refine ⟨_, rfl, by rw [lenApp]; omega, .int i, rfl, .inr ⟨i, rfl, hi, toString i, rfl, by rw [lenApp, lenApp]; omega, _, rfl, by rw [lenApp, lenApp, lenApp]; omega, ha, by show 1 ≤ 1000; decide, ?_⟩⟩
    exact ⟨.int i, rfl, .ref a, rfl, a, C, rfl, T.O, nf, .inl ⟨ha, q⟩⟩
end
/-- the two exception classes -/
structure Xc (P : Program) (K : PySem.W.Frag) (mg : Str → Option Value) where
  CR : Addr
  CN : Addr
  fR : Addr
  fN : Addr
  dR : FuncData
  dN : FuncData
  TR : Sup P K mg CR fR "BadRow.__init__" sRow dR
  TN : Sup P K mg CN fN "BadNumber.__init__" sNum dN
  bR : Binds K dR ["self", "place"] []
  bN : Binds K dN ["self", "word"] []
  nR : PySem.W.findIn K (.ref CR) "place" = some none
  nN : PySem.W.findIn K (.ref CN) "word" = some none
  gR : mg "BadRow" = some (.ref CR)
  gN : mg "BadNumber" = some (.ref CN)
theorem mkO_num {E : XK} {C : Addr} {H H1 : Hp} {z : Str} (hz : z.length ≤ 100) (h : Rai E C H [("word", .str z)]) (s : Same H H1) :
    [V.str z].length ≤ 1000 ∧ ∀ a, H1 a = none → spNum C (.ref a :: ([V.str z] ++ [])) (upd H1 a (exo a C none)) (fun v H2 => v = .non ∧ ∃ d fs, H2 a = some (exo a C (some d)) ∧ H2 d = some (exd d fs) ∧ H1 d = none ∧ E (.ref C) (some d) (upd (del H2 a) d (.xd fs))) (fun _ _ _ => False) := by
  refine ⟨by show 1 ≤ 1000; decide, fun a na => ⟨a, z, rfl, upd_same, hz, fun dx nx ne => ?_⟩⟩
  rw [upd_ne ne] at nx
  refine ⟨rfl, dx, _, upd_same, by rw [upd_ne ne, upd_same], nx, h dx _ (s.trans (xsame na nx fun b h1 h2 => ?_)) upd_same⟩
  rw [upd_ne h1, upd_ne h2, upd_ne h1]
theorem mkO_row {E : XK} {C : Addr} {H H1 : Hp} {i : Int} (hi : i.natAbs.log2 < 1920 ∧ (Str.ofString (toString i)).length ≤ 100) (h : Rai E C H [("place", .int i)]) (s : Same H H1) :
    [V.int i].length ≤ 1000 ∧ ∀ a, H1 a = none → spRow C (.ref a :: ([V.int i] ++ [])) (upd H1 a (exo a C none)) (fun v H2 => v = .non ∧ ∃ d fs, H2 a = some (exo a C (some d)) ∧ H2 d = some (exd d fs) ∧ H1 d = none ∧ E (.ref C) (some d) (upd (del H2 a) d (.xd fs))) (fun _ _ _ => False) := by
  refine ⟨by show 1 ≤ 1000; decide, fun a na => ⟨a, i, rfl, upd_same, hi.1, hi.2, fun dx nx ne => ?_⟩⟩
  rw [upd_ne ne] at nx
  refine ⟨rfl, dx, _, upd_same, by rw [upd_ne ne, upd_same], nx, h dx _ (s.trans (xsame na nx fun b h1 h2 => ?_)) upd_same⟩
  rw [upd_ne h1, upd_ne h2, upd_ne h1]
end K7

namespace K24
/-! ### rows of timers as a walk: the widest it has been, run by run -/
/-- true is "on" -/
abbrev Clk := Bool × Nat
structure St where
  run : List Nat
  dir : Bool
  off : Nat
def tot : List Nat → Nat
  | [] => 0
  | a :: r => a + tot r
def bump (l : List Nat) (n : Nat) : List Nat := match l with
  | [] => [n]
  | a :: r => (a + n) :: r
theorem tot_bump (l : List Nat) (n : Nat) : tot (bump l n) = tot l + n := by
  cases l with
  | nil => show n + 0 = 0 + n; omega
  | cons a r => show a + n + tot r = a + tot r + n; omega
theorem bump_bump (l : List Nat) (n m : Nat) : bump (bump l n) m = bump l (n + m) := by
  cases l with
  | nil => rfl
  | cons a r => show (a + n + m) :: r = (a + (n + m)) :: r; rw [Nat.add_assoc]
theorem bump_cons (x : Nat) (l : List Nat) (m : Nat) : bump (x :: l) m = (x + m) :: l := rfl
def go (s : St) (c : Clk) : St :=
  if c.1 = s.dir then (if c.2 ≤ s.off then ⟨s.run, s.dir, s.off - c.2⟩ else ⟨bump s.run (c.2 - s.off), s.dir, 0⟩)
  else if s.off + c.2 ≤ tot s.run then ⟨s.run, s.dir, s.off + c.2⟩ else ⟨(s.off + c.2 - tot s.run) :: s.run, c.1, 0⟩
def ok (s : St) : Prop := s.off ≤ tot s.run ∧ s.run ≠ []
theorem bump_ne (l : List Nat) (n : Nat) : bump l n ≠ [] := by cases l <;> exact List.cons_ne_nil _ _
theorem go_ok {s : St} (h : ok s) (c : Clk) : ok (go s c) := by
  obtain ⟨h1, h2⟩ := h
  unfold go
  split
  · split
    · exact ⟨Nat.le_trans (Nat.sub_le ..) h1, h2⟩
    · exact ⟨Nat.zero_le _, bump_ne _ _⟩
  · split
    · exact ⟨by assumption, h2⟩
    · exact ⟨Nat.zero_le _, List.cons_ne_nil _ _⟩
theorem go_zero {s : St} (h : ok s) (d : Bool) : go s (d, 0) = s := by
  obtain ⟨h1, h2⟩ := h
  unfold go
  by_cases e : d = s.dir
  · rw [if_pos e, if_pos (Nat.zero_le _)]
    rfl
  · rw [if_neg e, if_pos (by omega)]
    rfl
theorem go_same {s : St} {d : Bool} {n : Nat} (e : d = s.dir) : go s (d, n) = if n ≤ s.off then ⟨s.run, s.dir, s.off - n⟩ else ⟨bump s.run (n - s.off), s.dir, 0⟩ := if_pos e
theorem go_other {s : St} {d : Bool} {n : Nat} (e : d ≠ s.dir) : go s (d, n) = if s.off + n ≤ tot s.run then ⟨s.run, s.dir, s.off + n⟩ else ⟨(s.off + n - tot s.run) :: s.run, d, 0⟩ := if_neg e
theorem go_added {s : St} (h : ok s) (d : Bool) (a b : Nat) : go (go s (d, a)) (d, b) = go s (d, a + b) := by
  obtain ⟨h1, h2⟩ := h
  obtain ⟨run, dir, off⟩ := s
  simp only at h1 h2
  by_cases e : d = dir
  · subst e
    rw [go_same (s := ⟨run, d, off⟩) rfl, go_same (s := ⟨run, d, off⟩) rfl]
    by_cases c1 : a ≤ off
    · rw [if_pos c1, go_same rfl]
      by_cases c2 : a + b ≤ off
      · rw [if_pos c2, if_pos (show b ≤ off - a by omega)]
        simp only [St.mk.injEq, true_and]
        omega
      · rw [if_neg c2, if_neg (show ¬ b ≤ off - a by omega)]
        simp only [St.mk.injEq, and_true, true_and]
        exact congrArg (bump run) (by omega)
    · rw [if_neg c1, go_same rfl, if_neg (show ¬ a + b ≤ off by omega)]
      by_cases c2 : b = 0
      · subst c2
        rw [if_pos (Nat.zero_le _)]
        rfl
      · rw [if_neg (show ¬ b ≤ 0 by omega), bump_bump]
        simp only [St.mk.injEq, and_true, true_and]
        exact congrArg (bump run) (by omega)
  · rw [go_other (s := ⟨run, dir, off⟩) e, go_other (s := ⟨run, dir, off⟩) e]
    by_cases c1 : off + a ≤ tot run
    · rw [if_pos c1, go_other e]
      by_cases c2 : off + (a + b) ≤ tot run
      · rw [if_pos c2, if_pos (show off + a + b ≤ tot run by omega)]
        simp only [St.mk.injEq, true_and]
        omega
      · rw [if_neg c2, if_neg (show ¬ off + a + b ≤ tot run by omega)]
        simp only [St.mk.injEq, and_true, List.cons.injEq]
        omega
    · rw [if_neg c1, go_same rfl, if_neg (show ¬ off + (a + b) ≤ tot run by omega)]
      by_cases c2 : b = 0
      · subst c2
        rw [if_pos (Nat.zero_le _)]
        rfl
      · rw [if_neg (show ¬ b ≤ 0 by omega), bump_cons]
        simp only [St.mk.injEq, and_true, List.cons.injEq]
        omega
theorem bool_ne {d e : Bool} (h : d ≠ e) : (!d) = e := by cases d <;> cases e <;> simp_all
theorem go_swing {s : St} (h : ok s) (d : Bool) {a b c : Nat} (h1 : b ≤ a) (h2 : b ≤ c) : go (go (go s (d, a)) (!d, b)) (d, c) = go s (d, a + c - b) := by
  -- up a, back b, up b is up a; and c = b + (c - b)
  have back : ∀ {s : St}, ok s → go (go (go s (d, a)) (!d, b)) (d, b) = go s (d, a) := by
    intro s h
    obtain ⟨h3, h4⟩ := h
    obtain ⟨run, dir, off⟩ := s
    simp only at h3 h4
    by_cases e : d = dir
    · subst e
      have hn : (!d) ≠ d := by cases d <;> simp
      rw [go_same (s := ⟨run, d, off⟩) rfl]
      by_cases c1 : a ≤ off
      · rw [if_pos c1, go_other (s := ⟨_, d, _⟩) (d := !d) hn, if_pos (show off - a + b ≤ tot run by omega), go_same (s := ⟨_, d, _⟩) (d := d) rfl, if_pos (show b ≤ off - a + b by omega)]
        simp only [St.mk.injEq, true_and]
        omega
      · have ht := tot_bump run (a - off)
        rw [if_neg c1, go_other (s := ⟨_, d, _⟩) (d := !d) hn, if_pos (show 0 + b ≤ tot (bump run (a - off)) by omega), go_same (s := ⟨_, d, _⟩) (d := d) rfl, if_pos (show b ≤ 0 + b by omega)]
        simp only [St.mk.injEq, true_and]
        omega
    · have e2 : (!d) = dir := bool_ne e
      rw [go_other (s := ⟨run, dir, off⟩) e]
      by_cases c1 : off + a ≤ tot run
      · rw [if_pos c1, go_same (s := ⟨_, dir, _⟩) (d := !d) e2, if_pos (show b ≤ off + a by omega), go_other (s := ⟨_, dir, _⟩) (d := d) e, if_pos (show off + a - b + b ≤ tot run by omega)]
        simp only [St.mk.injEq, true_and]
        omega
      · have hn : (!d) ≠ d := by cases d <;> simp
        rw [if_neg c1, go_other (s := ⟨_, d, _⟩) (d := !d) hn, if_pos (show 0 + b ≤ tot ((off + a - tot run) :: run) by show 0 + b ≤ off + a - tot run + tot run; omega), go_same (s := ⟨_, d, _⟩) (d := d) rfl, if_pos (show b ≤ 0 + b by omega)]
        simp only [St.mk.injEq, true_and]
        omega
  have e1 : (d, c) = (d, b + (c - b)) := by rw [Nat.add_sub_cancel' h2]
  rw [e1, ← go_added (go_ok (go_ok h _) _), back h, go_added h, show a + (c - b) = a + c - b by omega]
theorem go_tail {s : St} (h : ok s) (d : Bool) {a b c : Nat} (h1 : b ≤ a) (h2 : c < b) : go (go (go s (d, a)) (!d, b)) (d, c) = go (go s (d, a)) (!d, b - c) := by
  -- back b is back (b - c) and then back c; up c takes that back
  have e1 : ((!d), b) = ((!d), (b - c) + c) := by rw [Nat.sub_add_cancel (Nat.le_of_lt h2)]
  have ho := go_ok h (d, a)
  rw [e1, ← go_added ho]
  obtain ⟨h3, h4⟩ := h
  obtain ⟨run, dir, off⟩ := s
  simp only at h3 h4
  by_cases e : d = dir
  · subst e
    have hn : (!d) ≠ d := by cases d <;> simp
    rw [go_same (s := ⟨run, d, off⟩) rfl]
    by_cases c1 : a ≤ off
    · rw [if_pos c1, go_other (s := ⟨_, d, _⟩) (d := !d) hn, if_pos (show off - a + (b - c) ≤ tot run by omega), go_other (s := ⟨_, d, _⟩) (d := !d) hn, if_pos (show off - a + (b - c) + c ≤ tot run by omega), go_same (s := ⟨_, d, _⟩) (d := d) rfl, if_pos (show c ≤ off - a + (b - c) + c by omega)]
      simp only [St.mk.injEq, true_and]
      omega
    · have ht := tot_bump run (a - off)
      rw [if_neg c1, go_other (s := ⟨_, d, _⟩) (d := !d) hn, if_pos (show 0 + (b - c) ≤ tot (bump run (a - off)) by omega), go_other (s := ⟨_, d, _⟩) (d := !d) hn, if_pos (show 0 + (b - c) + c ≤ tot (bump run (a - off)) by omega), go_same (s := ⟨_, d, _⟩) (d := d) rfl, if_pos (show c ≤ 0 + (b - c) + c by omega)]
      simp only [St.mk.injEq, true_and]
      omega
  · have e2 : (!d) = dir := bool_ne e
    rw [go_other (s := ⟨run, dir, off⟩) e]
    by_cases c1 : off + a ≤ tot run
    · rw [if_pos c1, go_same (s := ⟨_, dir, _⟩) (d := !d) e2, if_pos (show b - c ≤ off + a by omega), go_same (s := ⟨_, dir, _⟩) (d := !d) e2, if_pos (show c ≤ off + a - (b - c) by omega), go_other (s := ⟨_, dir, _⟩) (d := d) e, if_pos (show off + a - (b - c) - c + c ≤ tot run by omega)]
      simp only [St.mk.injEq, true_and]
      omega
    · have hn : (!d) ≠ d := by cases d <;> simp
      have ht : tot ((off + a - tot run) :: run) = off + a - tot run + tot run := rfl
      rw [if_neg c1, go_other (s := ⟨_, d, _⟩) (d := !d) hn, if_pos (show 0 + (b - c) ≤ tot ((off + a - tot run) :: run) by omega), go_other (s := ⟨_, d, _⟩) (d := !d) hn, if_pos (show 0 + (b - c) + c ≤ tot ((off + a - tot run) :: run) by omega), go_same (s := ⟨_, d, _⟩) (d := d) rfl, if_pos (show c ≤ 0 + (b - c) + c by omega)]
      simp only [St.mk.injEq, true_and]
      omega
end K24

namespace K24
/-! ### the rules, and where they end -/
inductive Ru | nothing | added | swing | tail
deriving DecidableEq
/-- the rule at the first place of what is left of a row -/
def ruleL : List Clk → Option Ru
  | [] => none
  | [(_, a)] => if a = 0 then some .nothing else none
  | [(k, a), (k1, _)] => if a = 0 then some .nothing else if k1 = k then some .added else none
  | (k, a) :: (k1, b) :: (k2, c) :: _ => if a = 0 then some .nothing else if k1 = k then some .added else if k2 = k ∧ b ≤ a then (if b ≤ c then some .swing else some .tail) else none
theorem rl1 (k : Bool) (a : Nat) : ruleL [(k, a)] = if a = 0 then some .nothing else none := rfl
theorem rl2 (k k1 : Bool) (a b : Nat) : ruleL [(k, a), (k1, b)] = if a = 0 then some .nothing else if k1 = k then some .added else none := rfl
theorem rl3 (k k1 k2 : Bool) (a b c : Nat) (l : List Clk) : ruleL ((k, a) :: (k1, b) :: (k2, c) :: l) = if a = 0 then some .nothing else if k1 = k then some .added else if k2 = k ∧ b ≤ a then (if b ≤ c then some .swing else some .tail) else none := rfl
/-- what is left behind it, and how the delay grows -/
def useL : Ru → List Clk → List Clk × Nat
  | .nothing, _ :: l => (l, 0)
  | .added, (k, a) :: (_, b) :: l => ((k, a + b) :: l, 0)
  | .swing, (k, a) :: (_, b) :: (_, c) :: l => ((k, a + c - b) :: l, b)
  | .tail, (k, a) :: (k1, b) :: (_, c) :: l => ((k, a) :: (k1, b - c) :: l, c)
  | _, l => (l, 0)
def run (s : St) (l : List Clk) : St := l.foldl go s
theorem run_ok {s : St} (h : ok s) (l : List Clk) : ok (run s l) := by
  induction l generalizing s with
  | nil => exact h
  | cons c l ih => exact ih (go_ok h c)
theorem run_app (s : St) (l m : List Clk) : run s (l ++ m) = run (run s l) m := List.foldl_append
def onS (l : List Clk) : Nat := match l with
  | [] => 0
  | (k, n) :: l => (if k then n else 0) + onS l
def offS (l : List Clk) : Nat := match l with
  | [] => 0
  | (k, n) :: l => (if k then 0 else n) + offS l
theorem onS_app (l m : List Clk) : onS (l ++ m) = onS l + onS m := by
  induction l with
  | nil => exact (Nat.zero_add _).symm
  | cons c l ih => obtain ⟨k, n⟩ := c; show (if k then n else 0) + onS (l ++ m) = (if k then n else 0) + onS l + onS m; rw [ih, Nat.add_assoc]
theorem offS_app (l m : List Clk) : offS (l ++ m) = offS l + offS m := by
  induction l with
  | nil => exact (Nat.zero_add _).symm
  | cons c l ih => obtain ⟨k, n⟩ := c; show (if k then 0 else n) + offS (l ++ m) = (if k then 0 else n) + offS l + offS m; rw [ih, Nat.add_assoc]
/-- the forms in which a rule can be used -/
theorem rule_form {l : List Clk} {r : Ru} (h : ruleL l = some r) :
    (∃ k l', l = (k, 0) :: l' ∧ r = .nothing) ∨ (∃ k a b l', l = (k, a) :: (k, b) :: l' ∧ r = .added ∧ a ≠ 0) ∨ (∃ k a b c l', l = (k, a) :: (!k, b) :: (k, c) :: l' ∧ r = .swing ∧ b ≤ a ∧ b ≤ c ∧ a ≠ 0) ∨ ∃ k a b c l', l = (k, a) :: (!k, b) :: (k, c) :: l' ∧ r = .tail ∧ b ≤ a ∧ c < b ∧ a ≠ 0 := by
  match l, h with
  | [(k, a)], h =>
    rw [rl1] at h
    by_cases z : a = 0
    · subst z; rw [if_pos rfl] at h; cases h; exact .inl ⟨k, [], rfl, rfl⟩
    · rw [if_neg z] at h; cases h
  | [(k, a), (k1, b)], h =>
    rw [rl2] at h
    by_cases z : a = 0
    · subst z; rw [if_pos rfl] at h; cases h; exact .inl ⟨k, _, rfl, rfl⟩
    · rw [if_neg z] at h
      by_cases e : k1 = k
      · subst e; rw [if_pos rfl] at h; cases h; exact .inr (.inl ⟨k1, a, b, [], rfl, rfl, z⟩)
      · rw [if_neg e] at h; cases h
  | (k, a) :: (k1, b) :: (k2, c) :: l', h =>
    rw [rl3] at h
    by_cases z : a = 0
    · subst z; rw [if_pos rfl] at h; cases h; exact .inl ⟨k, _, rfl, rfl⟩
    · rw [if_neg z] at h
      by_cases e : k1 = k
      · subst e; rw [if_pos rfl] at h; cases h; exact .inr (.inl ⟨k1, a, b, _, rfl, rfl, z⟩)
      · rw [if_neg e] at h
        by_cases q : k2 = k ∧ b ≤ a
        · obtain ⟨e2, hb⟩ := q
          subst e2
          have ek : k1 = !k2 := by cases k1 <;> cases k2 <;> simp_all
          subst ek
          rw [if_pos ⟨rfl, hb⟩] at h
          by_cases y : b ≤ c
          · rw [if_pos y] at h; cases h; exact .inr (.inr (.inl ⟨k2, a, b, c, l', rfl, rfl, hb, y, z⟩))
          · rw [if_neg y] at h; cases h; exact .inr (.inr (.inr ⟨k2, a, b, c, l', rfl, rfl, hb, by omega, z⟩))
        · rw [if_neg q] at h; cases h
theorem use_run {l : List Clk} {r : Ru} (h : ruleL l = some r) {s : St} (hs : ok s) : run s (useL r l).1 = run s l := by
  rcases rule_form h with ⟨k, l', rfl, rfl⟩ | ⟨k, a, b, l', rfl, rfl, _⟩ | ⟨k, a, b, c, l', rfl, rfl, h1, h2, _⟩ | ⟨k, a, b, c, l', rfl, rfl, h1, h2, _⟩
  · show run s l' = run (go s (k, 0)) l'
    rw [go_zero hs]
  · show run (go s (k, a + b)) l' = run (go (go s (k, a)) (k, b)) l'
    rw [go_added hs]
  · show run (go s (k, a + c - b)) l' = run (go (go (go s (k, a)) (!k, b)) (k, c)) l'
    rw [go_swing hs k h1 h2]
  · show run (go (go s (k, a)) (!k, b - c)) l' = run (go (go (go s (k, a)) (!k, b)) (k, c)) l'
    rw [go_tail hs k h1 h2]
theorem use_sums {l : List Clk} {r : Ru} (h : ruleL l = some r) : onS (useL r l).1 + (useL r l).2 = onS l ∧ offS (useL r l).1 + (useL r l).2 = offS l ∧ (useL r l).1.length < l.length := by
  rcases rule_form h with ⟨k, l', rfl, rfl⟩ | ⟨k, a, b, l', rfl, rfl, _⟩ | ⟨k, a, b, c, l', rfl, rfl, h1, h2, _⟩ | ⟨k, a, b, c, l', rfl, rfl, h1, h2, _⟩
  · cases k <;> simp [useL, onS, offS]
  · cases k <;> simp [useL, onS, offS] <;> omega
  · cases k <;> simp [useL, onS, offS] <;> omega
  · cases k <;> simp [useL, onS, offS] <;> omega
/-! ### normal rows -/
def Norm (l : List Clk) : Prop := ∀ p, ruleL (l.drop p) = none
theorem norm_tail {c : Clk} {l : List Clk} (h : Norm (c :: l)) : Norm l := fun p => h (p + 1)
def decR : List Nat → Bool → List Clk
  | [], _ => []
  | x :: r, d => decR r (!d) ++ (if tot (x :: r) = 0 then [] else [(d, tot (x :: r))])
def dec (s : St) : List Clk := decR s.run s.dir ++ (if s.off = 0 then [] else [(!s.dir, s.off)])
theorem norm_pos {k : Bool} {a : Nat} {l : List Clk} (h : Norm ((k, a) :: l)) : a ≠ 0 := by
  intro z
  subst z
  have := h 0
  cases l with
  | nil => cases this
  | cons c l =>
    obtain ⟨k1, b⟩ := c
    cases l with
    | nil => cases this
    | cons c l => cases this
theorem norm_two {k k1 : Bool} {a b : Nat} {l : List Clk} (h : Norm ((k, a) :: (k1, b) :: l)) : k1 = !k ∧ (l ≠ [] → a < b) := by
  have ha := norm_pos h
  have hb := norm_pos (norm_tail h)
  have h0 : ruleL ((k, a) :: (k1, b) :: l) = none := h 0
  have e1 : k1 ≠ k := fun e => by
    subst e
    cases l with
    | nil => rw [rl2, if_neg ha, if_pos rfl] at h0; cases h0
    | cons c l => obtain ⟨k2, c⟩ := c; rw [rl3, if_neg ha, if_pos rfl] at h0; cases h0
  refine ⟨by cases k1 <;> cases k <;> simp_all, fun hl => ?_⟩
  cases l with
  | nil => exact absurd rfl hl
  | cons c l =>
    obtain ⟨k2, c⟩ := c
    have h1 : ruleL ((k1, b) :: (k2, c) :: l) = none := h 1
    have e2 : k2 ≠ k1 := fun e => by
      subst e
      cases l with
      | nil => rw [rl2, if_neg hb, if_pos rfl] at h1; cases h1
      | cons c l => obtain ⟨k3, e⟩ := c; rw [rl3, if_neg hb, if_pos rfl] at h1; cases h1
    have e3 : k2 = k := by cases k1 <;> cases k <;> cases k2 <;> simp_all
    refine Nat.lt_of_not_le fun hle => ?_
    rw [rl3, if_neg ha, if_neg e1, if_pos ⟨e3, hle⟩] at h0
    split at h0 <;> cases h0
theorem dec_more {l : List Clk} : ∀ {s : St}, s.off = 0 → tot s.run ≠ 0 → Norm ((s.dir, tot s.run) :: l) → dec (run s l) = dec s ++ l := by
  induction l with
  | nil => exact fun _ _ _ => (List.append_nil _).symm
  | cons c l ih =>
    intro s h0 hr hn
    obtain ⟨k, b⟩ := c
    obtain ⟨ek, hlt⟩ := norm_two hn
    have hb := norm_pos (norm_tail hn)
    obtain ⟨r, d, o⟩ := s
    simp only at h0 hr hn ek hlt
    subst h0
    subst ek
    have hnd : (!d) ≠ d := by cases d <;> simp
    have eg : go ⟨r, d, 0⟩ (!d, b) = if 0 + b ≤ tot r then ⟨r, d, 0 + b⟩ else ⟨(0 + b - tot r) :: r, !d, 0⟩ := go_other hnd
    show dec (run (go ⟨r, d, 0⟩ (!d, b)) l) = dec ⟨r, d, 0⟩ ++ (!d, b) :: l
    rw [eg]
    by_cases c1 : 0 + b ≤ tot r
    · have el : l = [] := Classical.byContradiction fun z => by have := hlt z; omega
      subst el
      rw [if_pos c1]
      show decR r d ++ (if 0 + b = 0 then [] else [(!d, 0 + b)]) = (decR r d ++ (if (0 : Nat) = 0 then [] else _)) ++ [(!d, b)]
      rw [if_neg (by omega), if_pos rfl, List.append_nil, Nat.zero_add]
    · rw [if_neg c1]
      have et : tot ((0 + b - tot r) :: r) = b := by show 0 + b - tot r + tot r = b; omega
      rw [ih (s := ⟨(0 + b - tot r) :: r, !d, 0⟩) rfl (by rw [et]; exact hb) (by rw [et]; exact norm_tail hn)]
      show (decR ((0 + b - tot r) :: r) (!d) ++ (if (0 : Nat) = 0 then [] else _)) ++ l = (decR r d ++ (if (0 : Nat) = 0 then [] else _)) ++ (!d, b) :: l
      rw [if_pos rfl, if_pos rfl, List.append_nil, List.append_nil]
      show (decR r (!!d) ++ (if tot ((0 + b - tot r) :: r) = 0 then [] else [(!d, tot ((0 + b - tot r) :: r))])) ++ l = _
      rw [et, if_neg hb, Bool.not_not, List.append_assoc]
      rfl
def s0 : St := ⟨[0], true, 0⟩
theorem s0_ok : ok s0 := ⟨Nat.le_refl _, List.cons_ne_nil _ _⟩
theorem dec_norm {l : List Clk} (h : Norm l) : dec (run s0 l) = l := by
  cases l with
  | nil => rfl
  | cons c l =>
    obtain ⟨k, a⟩ := c
    have ha := norm_pos h
    show dec (run (go s0 (k, a)) l) = (k, a) :: l
    cases k with
    | true =>
      have eg : go s0 (true, a) = ⟨[a], true, 0⟩ := by
        unfold go s0
        rw [if_pos rfl, if_neg (show ¬ a ≤ 0 by omega)]
        simp [bump]
      rw [eg, dec_more (s := ⟨[a], true, 0⟩) rfl ha h]
      show (([] ++ (if tot [a] = 0 then [] else [(true, tot [a])])) ++ _) ++ l = _
      rw [if_neg (show tot [a] ≠ 0 from ha)]
      rfl
    | false =>
      have eg : go s0 (false, a) = ⟨[a, 0], false, 0⟩ := by
        unfold go s0
        rw [if_neg (by simp), if_neg (show ¬ 0 + a ≤ tot [0] by show ¬ 0 + a ≤ 0; omega)]
        simp [tot]
      have et : tot [a, 0] = a := rfl
      rw [eg, dec_more (s := ⟨[a, 0], false, 0⟩) rfl ha (by rw [et]; exact h)]
      show ((decR [0] true ++ (if tot [a, 0] = 0 then [] else [(false, tot [a, 0])])) ++ _) ++ l = _
      rw [if_neg (show tot [a, 0] ≠ 0 from ha)]
      rfl
/-- one row, one normal row -/
theorem norm_unique {l m : List Clk} {d e : Nat} (h1 : Norm l) (h2 : Norm m) (hr : run s0 l = run s0 m) (hs : onS l + d = onS m + e) : l = m ∧ d = e := by
  have : l = m := by rw [← dec_norm h1, hr, dec_norm h2]
  subst this
  exact ⟨rfl, by omega⟩
/-! ### a rule at a place -/
def useAt (r : Ru) (l : List Clk) (d p : Nat) : List Clk × Nat := (l.take p ++ (useL r (l.drop p)).1, d + (useL r (l.drop p)).2)
theorem useAt_all {r : Ru} {l : List Clk} {d p : Nat} (h : ruleL (l.drop p) = some r) : run s0 (useAt r l d p).1 = run s0 l ∧ onS (useAt r l d p).1 + (useAt r l d p).2 = onS l + d ∧ offS (useAt r l d p).1 + (useAt r l d p).2 = offS l + d ∧ (useAt r l d p).1.length < l.length := by
  obtain ⟨h1, h2, h3⟩ := use_sums h
  have e1 := congrArg onS (List.take_append_drop p l)
  have e2 := congrArg offS (List.take_append_drop p l)
  have e3 := congrArg List.length (List.take_append_drop p l)
  rw [onS_app] at e1
  rw [offS_app] at e2
  rw [List.length_append] at e3
  refine ⟨?_, ?_, ?_, ?_⟩
  · show run s0 (l.take p ++ (useL r (l.drop p)).1) = run s0 l
    rw [run_app, use_run h (run_ok s0_ok _), ← run_app, List.take_append_drop]
  · show onS (l.take p ++ (useL r (l.drop p)).1) + (d + (useL r (l.drop p)).2) = _
    rw [onS_app]; omega
  · show offS (l.take p ++ (useL r (l.drop p)).1) + (d + (useL r (l.drop p)).2) = _
    rw [offS_app]; omega
  · show (l.take p ++ (useL r (l.drop p)).1).length < _
    rw [List.length_append]; omega
end K24

namespace K24
/-! ### what comes out -/
def EI (n : Nat) (P : Int → Prop) : Int → Prop := fun t => ∀ j : Nat, j ≤ n → P (t - j)
def DI (n : Nat) (P : Int → Prop) : Int → Prop := fun t => ∃ j : Nat, j ≤ n ∧ P (t - j)
def SI (d : Nat) (P : Int → Prop) : Int → Prop := fun t => P (t - d)
def one (c : Clk) (P : Int → Prop) : Int → Prop := if c.1 = true then EI c.2 P else DI c.2 P
def sem (l : List Clk) (P : Int → Prop) : Int → Prop := l.foldl (fun P c => one c P) P
theorem sem_app (l m : List Clk) (P : Int → Prop) : sem (l ++ m) P = sem m (sem l P) := List.foldl_append
theorem one_shift (c : Clk) (d : Nat) (P : Int → Prop) : one c (SI d P) = SI d (one c P) := by
  obtain ⟨k, n⟩ := c
  funext t
  unfold one SI
  cases k with
  | true =>
    show (∀ j : Nat, j ≤ n → P (t - j - d)) = ∀ j : Nat, j ≤ n → P (t - d - j)
    refine propext (forall_congr' fun j => forall_congr' fun _ => ?_)
    rw [show t - (j : Int) - d = t - d - j by omega]
  | false =>
    show (∃ j : Nat, j ≤ n ∧ P (t - j - d)) = ∃ j : Nat, j ≤ n ∧ P (t - d - j)
    refine propext (exists_congr fun j => and_congr_right fun _ => ?_)
    rw [show t - (j : Int) - d = t - d - j by omega]
theorem sem_shift (l : List Clk) (d : Nat) : ∀ P : Int → Prop, sem l (SI d P) = SI d (sem l P) := by
  induction l with
  | nil => exact fun _ => rfl
  | cons c l ih =>
    intro P
    show sem l (one c (SI d P)) = SI d (sem l (one c P))
    rw [one_shift, ih]
theorem shift_shift (d e : Nat) (P : Int → Prop) : SI d (SI e P) = SI (d + e) P := by
  funext t
  show P (t - d - e) = P (t - ((d + e : Nat) : Int))
  rw [show t - (d : Int) - e = t - ((d + e : Nat) : Int) by omega]
theorem one_zero (k : Bool) (P : Int → Prop) : one (k, 0) P = P := by
  funext t
  cases k with
  | true =>
    show (∀ j : Nat, j ≤ 0 → P (t - j)) = P t
    refine propext ⟨fun h => by have := h 0 (Nat.le_refl _); simpa using this, fun h j hj => ?_⟩
    have : j = 0 := by omega
    subst this
    simpa using h
  | false =>
    show (∃ j : Nat, j ≤ 0 ∧ P (t - j)) = P t
    refine propext ⟨fun ⟨j, hj, h⟩ => ?_, fun h => ⟨0, Nat.le_refl _, by simpa using h⟩⟩
    have : j = 0 := by omega
    subst this
    simpa using h
theorem one_added (k : Bool) (a b : Nat) (P : Int → Prop) : one (k, b) (one (k, a) P) = one (k, a + b) P := by
  funext t
  cases k with
  | true =>
    show (∀ i : Nat, i ≤ b → ∀ j : Nat, j ≤ a → P (t - i - j)) = ∀ j : Nat, j ≤ a + b → P (t - j)
    refine propext ⟨fun h j hj => ?_, fun h i hi j hj => ?_⟩
    · by_cases z : j ≤ a
      · have := h 0 (Nat.zero_le _) j z
        rw [show t - ((0 : Nat) : Int) - j = t - j by omega] at this
        exact this
      · have := h (j - a) (by omega) a (Nat.le_refl _)
        rw [show t - ((j - a : Nat) : Int) - a = t - j by omega] at this
        exact this
    · rw [show t - (i : Int) - j = t - ((i + j : Nat) : Int) by omega]
      exact h _ (by omega)
  | false =>
    show (∃ i : Nat, i ≤ b ∧ ∃ j : Nat, j ≤ a ∧ P (t - i - j)) = ∃ j : Nat, j ≤ a + b ∧ P (t - j)
    refine propext ⟨fun ⟨i, hi, j, hj, h⟩ => ⟨i + j, by omega, by rw [show t - ((i + j : Nat) : Int) = t - i - j by omega]; exact h⟩, fun ⟨j, hj, h⟩ => ?_⟩
    by_cases z : j ≤ a
    · exact ⟨0, Nat.zero_le _, j, z, by rw [show t - ((0 : Nat) : Int) - j = t - j by omega]; exact h⟩
    · exact ⟨j - a, by omega, a, Nat.le_refl _, by rw [show t - ((j - a : Nat) : Int) - a = t - j by omega]; exact h⟩
/-- a point of an interval, told by its distance -/
theorem E_iff {n : Nat} {P : Int → Prop} {t : Int} : EI n P t ↔ ∀ v : Int, t - n ≤ v → v ≤ t → P v := by
  constructor
  · intro h v h1 h2
    have := h (t - v).toNat (by omega)
    rw [show t - ((t - v).toNat : Int) = v by omega] at this
    exact this
  · exact fun h j hj => h _ (by omega) (by omega)
theorem D_iff {n : Nat} {P : Int → Prop} {t : Int} : DI n P t ↔ ∃ v : Int, t - n ≤ v ∧ v ≤ t ∧ P v := by
  constructor
  · rintro ⟨j, hj, h⟩
    exact ⟨_, by omega, by omega, h⟩
  · rintro ⟨v, h1, h2, h⟩
    exact ⟨(t - v).toNat, by omega, by rw [show t - ((t - v).toNat : Int) = v by omega]; exact h⟩
theorem swing_on {a b c : Nat} (h1 : b ≤ a) (h2 : b ≤ c) (P : Int → Prop) (t : Int) : EI c (DI b (EI a P)) t ↔ EI (a + c - b) P (t - b) := by
  rw [E_iff, E_iff]
  constructor
  · intro h v hv1 hv2
    -- look at max (v + b) (t - c)
    obtain ⟨s, hs1, hs2, hs3, hs4⟩ : ∃ s : Int, v + b ≤ s ∧ t - c ≤ s ∧ s ≤ t ∧ s ≤ v + a := by
      by_cases z : v + b ≤ t - c
      · exact ⟨t - c, z, by omega, by omega, by omega⟩
      · exact ⟨v + b, by omega, by omega, by omega, by omega⟩
    obtain ⟨u, hu1, hu2, hu⟩ := D_iff.mp (h s hs2 hs3)
    exact E_iff.mp hu v (by omega) (by omega)
  · intro h s hs1 hs2
    refine D_iff.mpr ?_
    by_cases z : s ≤ t - b
    · exact ⟨s, by omega, by omega, E_iff.mpr fun v h3 h4 => h v (by omega) (by omega)⟩
    · exact ⟨t - b, by omega, by omega, E_iff.mpr fun v h3 h4 => h v (by omega) (by omega)⟩
theorem E_not {n : Nat} {P : Int → Prop} {t : Int} : ¬ EI n P t ↔ DI n (fun s => ¬ P s) t := by
  rw [E_iff, D_iff]
  constructor
  · intro h
    refine Classical.byContradiction fun z => h fun v h1 h2 => Classical.byContradiction fun y => z ⟨v, h1, h2, y⟩
  · rintro ⟨v, h1, h2, h3⟩ h
    exact h3 (h v h1 h2)
theorem D_not {n : Nat} {P : Int → Prop} {t : Int} : ¬ DI n P t ↔ EI n (fun s => ¬ P s) t := by
  rw [E_iff, D_iff]
  constructor
  · exact fun h v h1 h2 y => h ⟨v, h1, h2, y⟩
  · rintro h ⟨v, h1, h2, h3⟩
    exact h v h1 h2 h3
theorem E_congr {n : Nat} {P Q : Int → Prop} {t : Int} (h : ∀ s, P s ↔ Q s) : EI n P t ↔ EI n Q t := by
  rw [show P = Q from funext fun s => propext (h s)]
theorem D_congr {n : Nat} {P Q : Int → Prop} {t : Int} (h : ∀ s, P s ↔ Q s) : DI n P t ↔ DI n Q t := by
  rw [show P = Q from funext fun s => propext (h s)]
theorem niff {p q : Prop} (h : ¬ p ↔ ¬ q) : p ↔ q := ⟨fun x => Classical.byContradiction fun y => h.mpr y x, fun x => Classical.byContradiction fun y => h.mp y x⟩
theorem swing_off {a b c : Nat} (h1 : b ≤ a) (h2 : b ≤ c) (P : Int → Prop) (t : Int) : DI c (EI b (DI a P)) t ↔ DI (a + c - b) P (t - b) := by
  have h := swing_on h1 h2 (fun s => ¬ P s) t
  have e1 : EI c (DI b (EI a fun s => ¬ P s)) t ↔ ¬ DI c (EI b (DI a P)) t := by
    rw [D_not]
    refine E_congr fun s => ?_
    rw [E_not]
    exact D_congr fun u => D_not.symm
  rw [e1, ← D_not] at h
  exact niff h
theorem tail_on {a b c : Nat} (h1 : b ≤ a) (h2 : c < b) (P : Int → Prop) (t : Int) : EI c (DI b (EI a P)) t ↔ DI (b - c) (EI a P) (t - c) := by
  rw [E_iff, D_iff]
  constructor
  · intro h
    refine Classical.byContradiction fun z => ?_
    have z' : ∀ v, t - b ≤ v → v ≤ t - c → ¬ EI a P v := fun v h3 h4 h5 => z ⟨v, by omega, h4, h5⟩
    obtain ⟨u1, hu1, hu2, hu3⟩ := D_iff.mp (h (t - c) (by omega) (by omega))
    have hu4 : u1 < t - b := Classical.byContradiction fun y => z' u1 (by omega) (by omega) hu3
    -- the last one ahead of t - b
    obtain ⟨m, ⟨hm1, hm2, hm3⟩, hmax⟩ : ∃ m : Int, (t - c - b ≤ m ∧ m < t - b ∧ EI a P m) ∧ ∀ v : Int, (t - c - b ≤ v ∧ v < t - b ∧ EI a P v) → v ≤ m := by
      have key : ∀ (k : Nat) (u : Int), (t - b - u).toNat ≤ k → (t - c - b ≤ u ∧ u < t - b ∧ EI a P u) → ∃ m : Int, (t - c - b ≤ m ∧ m < t - b ∧ EI a P m) ∧ ∀ v : Int, (t - c - b ≤ v ∧ v < t - b ∧ EI a P v) → v ≤ m := by
        intro k
        induction k with
        | zero => intro u hk hu; omega
        | succ k ih =>
          intro u hk hu
          by_cases y : ∃ v : Int, u < v ∧ (t - c - b ≤ v ∧ v < t - b ∧ EI a P v)
          · obtain ⟨v, hv1, hv2⟩ := y
            exact ih v (by omega) hv2
          · exact ⟨u, hu, fun v hv => by
              have : ¬ u < v := fun w => y ⟨v, w, hv⟩
              omega⟩
      exact key _ u1 (Nat.le_refl _) ⟨by omega, hu4, hu3⟩
    obtain ⟨u, hu5, hu6, hu7⟩ := D_iff.mp (h (m + b + 1) (by omega) (by omega))
    have hge : t - b ≤ u := Classical.byContradiction fun y => by
      have := hmax u ⟨by omega, by omega, hu7⟩
      omega
    have hgt : t - c < u := Classical.byContradiction fun y => z' u hge (by omega) hu7
    refine z' (t - b) (by omega) (by omega) (E_iff.mpr fun v h3 h4 => ?_)
    by_cases y : v ≤ m
    · exact E_iff.mp hm3 v (by omega) y
    · exact E_iff.mp hu7 v (by omega) (by omega)
  · rintro ⟨u, hu1, hu2, hu3⟩ s hs1 hs2
    exact D_iff.mpr ⟨u, by omega, by omega, hu3⟩
theorem tail_off {a b c : Nat} (h1 : b ≤ a) (h2 : c < b) (P : Int → Prop) (t : Int) : DI c (EI b (DI a P)) t ↔ EI (b - c) (DI a P) (t - c) := by
  have h := tail_on h1 h2 (fun s => ¬ P s) t
  have e1 : EI c (DI b (EI a fun s => ¬ P s)) t ↔ ¬ DI c (EI b (DI a P)) t := by
    rw [D_not]
    refine E_congr fun s => ?_
    rw [E_not]
    exact D_congr fun u => D_not.symm
  have e2 : DI (b - c) (EI a fun s => ¬ P s) (t - c) ↔ ¬ EI (b - c) (DI a P) (t - c) := by
    rw [E_not]
    exact D_congr fun u => D_not.symm
  rw [e1, e2] at h
  exact niff h
theorem use_sem {l : List Clk} {r : Ru} (h : ruleL l = some r) (P : Int → Prop) : sem l P = SI (useL r l).2 (sem (useL r l).1 P) := by
  have s0 : ∀ Q : Int → Prop, SI 0 Q = Q := fun Q => funext fun t => by show Q (t - ((0 : Nat) : Int)) = Q t; rw [show t - ((0 : Nat) : Int) = t by omega]
  rcases rule_form h with ⟨k, l', rfl, rfl⟩ | ⟨k, a, b, l', rfl, rfl, _⟩ | ⟨k, a, b, c, l', rfl, rfl, h1, h2, _⟩ | ⟨k, a, b, c, l', rfl, rfl, h1, h2, _⟩
  · show sem l' (one (k, 0) P) = SI 0 (sem l' P)
    rw [one_zero, s0]
  · show sem l' (one (k, b) (one (k, a) P)) = SI 0 (sem l' (one (k, a + b) P))
    rw [one_added, s0]
  · show sem l' (one (k, c) (one (!k, b) (one (k, a) P))) = SI b (sem l' (one (k, a + c - b) P))
    rw [← sem_shift]
    refine congrArg (sem l') (funext fun t => propext ?_)
    cases k with
    | true => exact swing_on h1 h2 P t
    | false => exact swing_off h1 h2 P t
  · show sem l' (one (k, c) (one (!k, b) (one (k, a) P))) = SI c (sem l' (one (!k, b - c) (one (k, a) P)))
    rw [← sem_shift]
    refine congrArg (sem l') (funext fun t => propext ?_)
    cases k with
    | true => exact tail_on h1 h2 P t
    | false => exact tail_off h1 h2 P t
theorem useAt_sem {l : List Clk} {r : Ru} {d p : Nat} (h : ruleL (l.drop p) = some r) (P : Int → Prop) : SI d (sem l P) = SI (useAt r l d p).2 (sem (useAt r l d p).1 P) := by
  show _ = SI (d + (useL r (l.drop p)).2) (sem (l.take p ++ (useL r (l.drop p)).1) P)
  rw [← shift_shift, sem_app, ← use_sem h, ← sem_app, List.take_append_drop]
end K24

namespace K24
/-! ### the bits as lists -/
def wf (k : Bool) (n : Nat) : Nat → List Bool → List Bool
  | _, [] => []
  | m, x :: xs => (if n < (if x = k then m + 1 else 0) then k else !k) :: wf k n (if x = k then m + 1 else 0) xs
theorem wf_len (k : Bool) (n : Nat) : ∀ (xs : List Bool) (m : Nat), (wf k n m xs).length = xs.length
  | [], _ => rfl
  | x :: xs, m => congrArg (· + 1) (wf_len k n xs _)
theorem wf_iff (k : Bool) (n : Nat) : ∀ (xs : List Bool) (m t : Nat), t < xs.length → ((wf k n m xs)[t]? = some k ↔ ∀ j, j ≤ n → (j ≤ t → xs[t - j]? = some k) ∧ (t < j → j - t ≤ m))
  | [], _, _, h => absurd h (Nat.not_lt_zero _)
  | x :: xs, m, 0, _ => by
    show some (if n < (if x = k then m + 1 else 0) then k else !k) = some k ↔ _
    have hk : (!k) ≠ k := by cases k <;> simp
    by_cases e : x = k
    · subst e
      rw [if_pos rfl]
      by_cases h : n < m + 1
      · rw [if_pos h]
        refine ⟨fun _ j hj => ⟨fun h0 => ?_, fun _ => by omega⟩, fun _ => rfl⟩
        have : j = 0 := by omega
        subst this
        rfl
      · rw [if_neg h]
        refine ⟨fun z => absurd (Option.some.inj z) hk, fun z => ?_⟩
        have := (z n (Nat.le_refl _)).2 (by omega)
        omega
    · rw [if_neg e, if_neg (by omega)]
      refine ⟨fun z => absurd (Option.some.inj z) hk, fun z => ?_⟩
      have := (z 0 (Nat.zero_le _)).1 (Nat.le_refl _)
      exact absurd (Option.some.inj this) e
  | x :: xs, m, t + 1, h => by
    have ih := wf_iff k n xs (if x = k then m + 1 else 0) t (Nat.lt_of_succ_lt_succ h)
    show (wf k n (if x = k then m + 1 else 0) xs)[t]? = some k ↔ _
    rw [ih]
    have e1 : ∀ j, j ≤ t → (x :: xs)[t + 1 - j]? = xs[t - j]? := fun j hj => by
      rw [show t + 1 - j = (t - j) + 1 by omega]
      rfl
    constructor
    · intro a j hj
      refine ⟨fun h1 => ?_, fun h1 => ?_⟩
      · by_cases z : j ≤ t
        · rw [e1 j z]
          exact (a j hj).1 z
        · have ej : j = t + 1 := by omega
          subst ej
          have h2 := (a (t + 1) hj).2 (by omega)
          rw [Nat.sub_self]
          by_cases e : x = k
          · rw [e]; rfl
          · rw [if_neg e] at h2; omega
      · have h2 := (a j hj).2 (by omega)
        by_cases e : x = k
        · rw [if_pos e] at h2; omega
        · rw [if_neg e] at h2; omega
    · intro a j hj
      refine ⟨fun h1 => by rw [← e1 j h1]; exact (a j hj).1 (by omega), fun h1 => ?_⟩
      have h2 := (a (t + 1) (by omega)).1 (Nat.le_refl _)
      rw [Nat.sub_self] at h2
      have e : x = k := Option.some.inj h2
      rw [if_pos e]
      by_cases z : j = t + 1
      · omega
      · have := (a j hj).2 (by omega)
        omega
def ext (xs : List Bool) : Int → Prop := fun t => 0 ≤ t ∧ xs[t.toNat]? = some true
/-- the count with which a timer begins -/
def Fit (m : Nat) (c : Clk) : Prop := if c.1 = true then m = 0 else c.2 ≤ m
theorem wf_ext {c : Clk} {m : Nat} (hm : Fit m c) (xs : List Bool) {t : Int} (ht : t < xs.length) : ext (wf c.1 c.2 m xs) t ↔ one c (ext xs) t := by
  obtain ⟨k, n⟩ := c
  by_cases h0 : 0 ≤ t
  · have hi := wf_iff k n xs m t.toNat (by omega)
    have hl : t.toNat < (wf k n m xs).length := by rw [wf_len]; omega
    cases k with
    | true =>
      have hm : m = 0 := hm
      subst hm
      show 0 ≤ t ∧ (wf true n 0 xs)[t.toNat]? = some true ↔ ∀ j : Nat, j ≤ n → ext xs (t - j)
      rw [hi]
      constructor
      · rintro ⟨_, a⟩ j hj
        have h1 : j ≤ t.toNat := Classical.byContradiction fun z => by
          have := (a j hj).2 (by omega)
          omega
        exact ⟨by omega, by rw [show (t - (j : Int)).toNat = t.toNat - j by omega]; exact (a j hj).1 h1⟩
      · intro a
        refine ⟨h0, fun j hj => ⟨fun h1 => ?_, fun h1 => ?_⟩⟩
        · have := (a j hj).2
          rw [show (t - (j : Int)).toNat = t.toNat - j by omega] at this
          exact this
        · have := (a j hj).1
          omega
    | false =>
      have hm : n ≤ m := hm
      show 0 ≤ t ∧ (wf false n m xs)[t.toNat]? = some true ↔ ∃ j : Nat, j ≤ n ∧ ext xs (t - j)
      have hb : (wf false n m xs)[t.toNat]? = some true ↔ ¬ (wf false n m xs)[t.toNat]? = some false := by
        rw [List.getElem?_eq_getElem hl]
        cases (wf false n m xs)[t.toNat] <;> simp
      rw [hb, hi]
      constructor
      · rintro ⟨_, a⟩
        refine Classical.byContradiction fun z => a fun j hj => ⟨fun h1 => ?_, fun _ => by omega⟩
        have hx : t.toNat - j < xs.length := by omega
        rw [List.getElem?_eq_getElem hx]
        cases e : xs[t.toNat - j] with
        | false => rfl
        | true => exact absurd ⟨j, hj, by omega, by rw [show (t - (j : Int)).toNat = t.toNat - j by omega, List.getElem?_eq_getElem hx, e]⟩ z
      · rintro ⟨j, hj, h1, h2⟩
        refine ⟨h0, fun a => ?_⟩
        have h3 := (a j hj).1 (by omega)
        rw [show (t - (j : Int)).toNat = t.toNat - j by omega, h3] at h2
        cases h2
  · constructor
    · exact fun h => absurd h.1 h0
    · intro h
      cases k with
      | true =>
        have h : ∀ j : Nat, j ≤ n → ext xs (t - j) := h
        have := (h 0 (Nat.zero_le _)).1
        omega
      | false =>
        have h : ∃ j : Nat, j ≤ n ∧ ext xs (t - j) := h
        obtain ⟨j, _, h, _⟩ := h
        omega
theorem one_causal (c : Clk) {P Q : Int → Prop} {T : Int} (h : ∀ s, s < T → (P s ↔ Q s)) : ∀ s, s < T → (one c P s ↔ one c Q s) := by
  obtain ⟨k, n⟩ := c
  intro s hs
  cases k with
  | true => exact forall_congr' fun j => forall_congr' fun _ => h _ (by omega)
  | false => exact exists_congr fun j => and_congr_right fun _ => h _ (by omega)
theorem sem_causal (l : List Clk) : ∀ {P Q : Int → Prop} {T : Int}, (∀ s, s < T → (P s ↔ Q s)) → ∀ s, s < T → (sem l P s ↔ sem l Q s) := by
  induction l with
  | nil => exact fun h => h
  | cons c l ih => exact fun h => ih (one_causal c h)
/-- worked one behind the other, each with the count that f tells -/
def rowL (f : Clk → Nat) (l : List Clk) (xs : List Bool) : List Bool := l.foldl (fun xs c => wf c.1 c.2 (f c) xs) xs
theorem rowL_len (f : Clk → Nat) (l : List Clk) : ∀ xs : List Bool, (rowL f l xs).length = xs.length := by
  induction l with
  | nil => exact fun _ => rfl
  | cons c l ih => exact fun xs => (ih _).trans (wf_len _ _ _ _)
theorem rowL_ext {f : Clk → Nat} (hf : ∀ c, Fit (f c) c) (l : List Clk) : ∀ (xs : List Bool) (t : Int), t < xs.length → (ext (rowL f l xs) t ↔ sem l (ext xs) t) := by
  induction l with
  | nil => exact fun _ _ _ => Iff.rfl
  | cons c l ih =>
    intro xs t ht
    show ext (rowL f l (wf c.1 c.2 (f c) xs)) t ↔ sem l (one c (ext xs)) t
    rw [ih _ t (by rw [wf_len]; exact ht)]
    exact sem_causal l (fun s hs => wf_ext (hf c) xs hs) t ht
def late (d : Nat) (xs : List Bool) : List Bool := List.replicate (min d xs.length) false ++ xs.take (xs.length - min d xs.length)
theorem late_len (d : Nat) (xs : List Bool) : (late d xs).length = xs.length := by
  unfold late
  rw [List.length_append, List.length_replicate, List.length_take]
  omega
theorem late_ext (d : Nat) (xs : List Bool) {t : Int} (ht : t < xs.length) : ext (late d xs) t ↔ SI d (ext xs) t := by
  unfold ext SI
  by_cases h0 : 0 ≤ t
  · unfold late
    by_cases hd : t.toNat < min d xs.length
    · rw [List.getElem?_append_left (by rw [List.length_replicate]; exact hd), List.getElem?_replicate, if_pos hd]
      constructor
      · rintro ⟨_, z⟩; cases z
      · rintro ⟨z, _⟩; omega
    · rw [List.getElem?_append_right (by rw [List.length_replicate]; omega), List.length_replicate, List.getElem?_take, if_pos (by omega)]
      show 0 ≤ t ∧ _ ↔ 0 ≤ t - (d : Int) ∧ xs[(t - (d : Int)).toNat]? = some true
      rw [show (t - (d : Int)).toNat = t.toNat - min d xs.length by omega]
      exact ⟨fun z => ⟨by omega, z.2⟩, fun z => ⟨h0, z.2⟩⟩
  · exact ⟨fun z => absurd z.1 h0, fun z => by have := z.1; omega⟩
theorem late_take (d : Nat) (xs : List Bool) : (List.replicate d false ++ xs).take xs.length = late d xs := by
  unfold late
  rw [List.take_append, List.length_replicate, List.take_replicate, show xs.length - d = xs.length - min d xs.length by omega, Nat.min_comm]
theorem ext_inj {xs ys : List Bool} (hl : xs.length = ys.length) (h : ∀ t : Int, t < xs.length → (ext xs t ↔ ext ys t)) : xs = ys := by
  refine List.ext_getElem hl fun i h1 h2 => ?_
  have := h (i : Int) (by omega)
  unfold ext at this
  rw [show ((i : Nat) : Int).toNat = i from rfl, List.getElem?_eq_getElem h1, List.getElem?_eq_getElem h2] at this
  cases e1 : xs[i] <;> cases e2 : ys[i] <;> rw [e1, e2] at this <;> simp at this <;> rfl
def outL (f : Clk → Nat) (l : List Clk) (d : Nat) (xs : List Bool) : List Bool := late d (rowL f l xs)
theorem outL_len (f : Clk → Nat) (l : List Clk) (d : Nat) (xs : List Bool) : (outL f l d xs).length = xs.length := (late_len _ _).trans (rowL_len f l xs)
theorem outL_ext {f : Clk → Nat} (hf : ∀ c, Fit (f c) c) (l : List Clk) (d : Nat) (xs : List Bool) {t : Int} (ht : t < xs.length) : ext (outL f l d xs) t ↔ SI d (sem l (ext xs)) t := by
  unfold outL
  rw [late_ext d _ (by rw [rowL_len]; exact ht)]
  exact rowL_ext hf l xs _ (by omega)
theorem out_same {f g : Clk → Nat} (hf : ∀ c, Fit (f c) c) (hg : ∀ c, Fit (g c) c) (l : List Clk) (d : Nat) (xs : List Bool) : outL f l d xs = outL g l d xs :=
  ext_inj (by rw [outL_len, outL_len]) fun t ht => by
    rw [outL_len] at ht
    rw [outL_ext hf l d xs ht, outL_ext hg l d xs ht]
theorem out_rule {f : Clk → Nat} (hf : ∀ c, Fit (f c) c) {l : List Clk} {r : Ru} {d p : Nat} (h : ruleL (l.drop p) = some r) (xs : List Bool) : outL f (useAt r l d p).1 (useAt r l d p).2 xs = outL f l d xs :=
  ext_inj (by rw [outL_len, outL_len]) fun t ht => by
    rw [outL_len] at ht
    rw [outL_ext hf _ _ xs ht, outL_ext hf l d xs ht, useAt_sem h]
end K24

set_option Elab.async false
set_option linter.all false
set_option maxRecDepth 100000
set_option maxHeartbeats 4000000
namespace K7
open PySem PySem.Spec PyProof.Rows L2 GX NdefX
/-! ### is_whole without an upper end, is_bit, check_bits -/
def wholeN (l : Int) : V → Bool
  | .int i => decide (l ≤ i)
  | _ => false
def spWholeN : Sp := fun vs H Q _ => ∃ (x : V) (l : Int), vs = [x, .int l, .non] ∧ ((∃ i, x = .int i) ∨ (∃ b, x = .bl b) ∨ ∃ z, x = .str z) ∧ Q (.bl (wholeN l x)) H
def b2n (b : Bool) : Nat := if b then 1 else 0
def bsV (xs : List Bool) : List V := xs.map fun b => V.int (b2n b : Nat)
theorem bsV_len (xs : List Bool) : (bsV xs).length = xs.length := List.length_map _
theorem bsV_get {xs : List Bool} {i : Nat} {x : V} (h : (bsV xs)[i]? = some x) : ∃ b, xs[i]? = some b ∧ x = .int (b2n b : Nat) := by
  unfold bsV at h
  rw [List.getElem?_map] at h
  obtain ⟨b, hb, e⟩ := Option.map_eq_some_iff.mp h
  exact ⟨b, hb, e.symm⟩
def isB (i : Int) : Bool := decide (0 ≤ i) && decide (i ≤ 1)
def spBit : Sp := fun vs H Q _ => ∃ i : Int, vs = [.int i] ∧ Q (.bl (isB i)) H
def SmallI (i : Int) : Prop := i.natAbs.log2 < 1920 ∧ (Str.ofString (toString i)).length ≤ 100
theorem smallM1 : SmallI (-1) := by unfold SmallI; decide
theorem small1 : SmallI 1 := by unfold SmallI; decide
/-- what check_bits is handed -/
def spBits (CR : Addr) : Sp := fun vs H Q E => ∃ x : V, vs = [x] ∧ ((∃ a xs, x = .ref a ∧ Sq H a (bsV xs) ∧ xs.length ≤ 1000 ∧ ∀ T H', Same H H' → H' T = some (.tup (bsV xs)) → Q (.ref T) H') ∨ (Scal x ∧ Rai E CR H [("place", .int (-1))]) ∨
  ∃ a b i, x = .ref a ∧ Sq H a [.int (b2n b : Nat), .int i] ∧ isB i = false ∧ Rai E CR H [("place", .int 1)])
section
variable {P : Program} {w : World} {K : PySem.W.Frag} {mg : Str → Option Value} {base : Heap}
theorem ok_wholeN {f : Addr} {fd : FuncData} {k : Nat} (F : Fun K "is_whole" "is_whole" sWhole f fd) (B : Bl mg) : FnOk P w K mg base CX0 (k + 1) f fd ["value", "least", "most"] spWholeN := by
  refine F.ok scWhole (fun vs H Q E h => ?_) (fun cdv A outer s H vs Q E hr h => ?_)
  · obtain ⟨x, l, rfl, _⟩ := h
    rfl
  · obtain ⟨x, l, rfl, hx, q⟩ := h
    refine ⟨_, pss_cons (ps_if (PW.pt (pw_or (pt_not (pt_val (pe_callB call_isi (by rfl) B.isi (by decide +kernel) (pa_cons (pv 0) (pa_cons (pe_bltn (v := .ty "int") (u := .type "int") (by rfl) B.int (by decide +kernel) rfl) pa_nil)))))
        (pw_or1 (pt_val (pe_callB call_isi (by rfl) B.isi (by decide +kernel) (pa_cons (pv 0) (pa_cons (pe_bltn (v := .ty "bool") (u := .type "bool") (by rfl) B.bool (by decide +kernel) rfl) pa_nil))))))) (pss_one (ps_ret pe_bl)) pss_nil)
      (pss_one (ps_ret (pe_and (pe_cmpR op_le (pv 1) (pv 0) (nomark _)) (pe_one (pe_or (pe_cmpR op_isN (pv 2) pe_non (nomark _)) (pe_one (pe_cmpR op_le (pv 0) (pv 2) (nomark _)))))))), ?_⟩
    rcases hx with ⟨i, rfl⟩ | ⟨b, rfl⟩ | ⟨z, rfl⟩
    · refine ⟨_, rfl, _, _, .type "int", _, true, rfl, .ty "int", .base (.int i), kit_ty (by decide +kernel), true, rfl, iteF ?_⟩
      refine ⟨_, rfl, _, _, .type "int", _, false, rfl, .ty "bool", .base (.int i), kit_ty (by decide +kernel), false, rfl, iteF ?_⟩
      refine ⟨_, rfl, _, rfl, _, _, rfl, rfl, _, rfl, ?_⟩
      have q : Q (.bl (decide (l ≤ i))) H := q
      by_cases h1 : l ≤ i
      · rw [decide_eq_true h1] at q ⊢
        exact iteT ⟨_, rfl, rfl, true, rfl, iteT q⟩
      · rw [decide_eq_false h1] at q ⊢
        exact iteF q
    · refine ⟨_, rfl, _, _, .type "bool", _, true, rfl, .ty "int", .base (.bl b), kit_ty (by decide +kernel), true, rfl, iteF ?_⟩
      refine ⟨_, rfl, _, _, .type "bool", _, true, rfl, .ty "bool", .base (.bl b), kit_ty (by decide +kernel), true, rfl, iteT q⟩
    · refine ⟨_, rfl, _, _, .type "str", _, false, rfl, .ty "int", .base (.str z), kit_ty (by decide +kernel), false, rfl, iteT q⟩
theorem ok_bit {f fW : Addr} {fd fdW : FuncData} {k : Nat} (F : Fun K "is_bit" "is_bit" sBit f fd) (B : Bl mg) (FW : Fun K "is_whole" "is_whole" sWhole fW fdW) (bW : Binds K fdW ["value", "least", "most"] []) (gW : mg "is_whole" = some (.ref fW)) : FnOk P w K mg base CX0 (k + 2) f fd ["value"] spBit := by
  have GW : FnOk P w K mg base CX0 (k + 1) fW fdW ["value", "least", "most"] spWhole := ok_whole FW B
  refine F.ok scBit (fun vs H Q E h => ?_) (fun cdv A outer s H vs Q E hr h => ?_)
  · obtain ⟨i, rfl, _⟩ := h
    rfl
  · obtain ⟨i, rfl, q⟩ := h
    refine ⟨_, pss_one (ps_ret (pe_call GW hr (by rfl) gW FW.kp bW .nil pass0 (pa_cons (pv 0) (pa_cons pe_int (pa_cons pe_int pa_nil))))), ?_⟩
    exact ⟨.int i, rfl, .int i, 0, 1, rfl, .inl ⟨i, rfl⟩, q⟩
theorem ok_bits {f fL fB : Addr} {fd fdL fdB : FuncData} {k : Nat} (F : Fun K "check_bits" "check_bits" sBits f fd) (B : Bl mg) (X : Xc P K mg) (FL : Fun K "is_listed" "is_listed" sListed fL fdL) (bL : Binds K fdL ["value"] []) (gL : mg "is_listed" = some (.ref fL))
    (FB : Fun K "is_bit" "is_bit" sBit fB fdB) (bB : Binds K fdB ["value"] []) (gB : mg "is_bit" = some (.ref fB)) {fW : Addr} {fdW : FuncData} (FW : Fun K "is_whole" "is_whole" sWhole fW fdW) (bW : Binds K fdW ["value", "least", "most"] []) (gW : mg "is_whole" = some (.ref fW)) :
    FnOk P w K mg base (CX P w) (k + 3) f fd ["row"] (spBits X.CR) := by
  have GL : FnOk P w K mg base CX0 (k + 2) fL fdL ["value"] spListed := ok_listed FL B
  have GB : FnOk P w K mg base CX0 (k + 2) fB fdB ["value"] spBit := ok_bit FB B FW bW gW
  have GR : FnOk P w K mg base CX0 (k + 1) X.fR X.dR ["self", "place"] (spRow X.CR) := ok_rowx X.TR X.nR
  refine F.okX scBits (fun vs H Q E h => ?_) (fun cdv A outer s H vs Q E hr h => ?_)
  · obtain ⟨x, rfl, _⟩ := h
    rfl
  · obtain ⟨x, rfl, h⟩ := h
    refine ⟨_, pss_cons (ps_if (pt_not (pt_val (pe_call GL hr (by rfl) gL FL.kp bL .nil pass0 (pa_cons (pv 0) pa_nil))))
        (pss_one (ps_raise rfl (takes_of rfl rfl rfl rfl) (pmk_oex X.TR.O X.TR.iC X.TR.tI GR hr X.bR .nil pass0 (by rfl) X.gR (pa_cons (pe_un un_neg pe_int) pa_nil)))) pss_nil)
      (pss_cons (ps_for (by passes_own) rfl (pi_enumA (by rfl) B.enum (pa_cons (pv 0) pa_nil)) (pg_tup rfl (pgs_cons (pg_name (i := 1) scBits.nd rfl (Or.inl rfl)) (pgs_cons (pg_name (i := 2) scBits.nd rfl (Or.inl rfl)) pgs_nil)))
        (pss_one (ps_if (pt_not (pt_val (pe_call GB hr (by rfl) gB FB.kp bB .nil pass0 (pa_cons (pv 2) pa_nil))))
          (pss_one (ps_raise rfl (takes_of rfl rfl rfl rfl) (pmk_oex X.TR.O X.TR.iC X.TR.tI GR hr X.bR .nil pass0 (by rfl) X.gR (pa_cons (pv 1) pa_nil)))) pss_nil)))
      (pss_one (ps_ret (pe_callTy call_tuple_of (by rfl) B.tuple (by decide +kernel) (pa_cons (pv 0) pa_nil))))), ?_⟩
    rcases h with ⟨a, xs, rfl, hq, hl, q⟩ | ⟨hs, hx⟩ | ⟨a, b, i, rfl, hq, hi, hx⟩
    · refine ⟨.ref a, rfl, .ref a, rfl, .inl ⟨a, _, rfl, hq, fun H1 s1 => ⟨_, rfl, iteF ?_⟩⟩⟩
      refine ⟨.ref a, rfl, a, bsV xs, rfl, forEnum (D := { nx := _, rt := Q }) (fun i σ H' => (∃ p r, σ = [some (.ref a), p, r]) ∧ Same H1 H') (hq.same s1) ⟨⟨none, none, rfl⟩, Same.refl _⟩ (fun i σ H' o p e => p.2 _ _ e) ?_ ?_⟩
      · rintro i x T σ H2 hx ⟨⟨p0, r0, rfl⟩, s2⟩ nT
        obtain ⟨b, hb, rfl⟩ := bsV_get hx
        refine ⟨T, _, rfl, sqT upd_same, rfl, .int (i : Nat), _, rfl, .int (b2n b : Nat), _, rfl, rfl, ?_⟩
        refine ⟨.int (b2n b : Nat), rfl, (b2n b : Nat), rfl, _, rfl, ?_⟩
        have e : isB ((b2n b : Nat) : Int) = true := by cases b <;> rfl
        rw [e]
        exact iteF ⟨⟨_, _, rfl⟩, s2.trans (same_upd nT)⟩
      · rintro σ H2 ⟨⟨p0, r0, rfl⟩, s2⟩
        have s12 := s1.trans s2
        rcases hq.same s12 with e | e
        · exact ⟨.ref a, rfl, a, _, rfl, .inl ⟨sqL e, fun l nl => q l _ (s12.trans (same_upd nl)) upd_same⟩⟩
        · exact ⟨.ref a, rfl, a, _, rfl, .inr ⟨sqT e, q a H2 s12 e⟩⟩
    · refine ⟨x, rfl, x, rfl, .inr ⟨hs, fun H1 s1 => ⟨_, rfl, iteT ?_⟩⟩⟩
      exact ⟨1, rfl, mkO_row smallM1 (hx.same s1) (Same.refl _)⟩
    · refine ⟨.ref a, rfl, .ref a, rfl, .inl ⟨a, _, rfl, hq, fun H1 s1 => ⟨_, rfl, iteF ?_⟩⟩⟩
      refine ⟨.ref a, rfl, a, [.int (b2n b : Nat), .int i], rfl, forEnum (D := { nx := _, rt := Q }) (fun j σ H' => (∃ p r, σ = [some (.ref a), p, r]) ∧ Same H1 H' ∧ j ≤ 1) (hq.same s1) ⟨⟨none, none, rfl⟩, Same.refl _, Nat.zero_le _⟩ (fun i σ H' o p e => p.2.1 _ _ e) ?_ ?_⟩
      · rintro j x T σ H2 hx2 ⟨⟨p0, r0, rfl⟩, s2, hj⟩ nT
        have sT := same_upd nT (o := .tup [.int (j : Nat), x])
        have hj2 : j = 0 ∨ j = 1 := by omega
        rcases hj2 with rfl | rfl
        · cases hx2
          refine ⟨T, _, rfl, sqT upd_same, rfl, .int (0 : Nat), _, rfl, .int (b2n b : Nat), _, rfl, rfl, ?_⟩
          refine ⟨.int (b2n b : Nat), rfl, (b2n b : Nat), rfl, _, rfl, ?_⟩
          have e : isB ((b2n b : Nat) : Int) = true := by cases b <;> rfl
          rw [e]
          exact iteF ⟨⟨_, _, rfl⟩, s2.trans sT, Nat.le_refl _⟩
        · cases hx2
          refine ⟨T, _, rfl, sqT upd_same, rfl, .int (1 : Nat), _, rfl, .int i, _, rfl, rfl, ?_⟩
          refine ⟨.int i, rfl, i, rfl, _, rfl, ?_⟩
          rw [hi]
          exact iteT ⟨.int (1 : Nat), rfl, mkO_row small1 (hx.same (s1.trans (s2.trans sT))) (Same.refl _)⟩
      · rintro σ H2 ⟨_, _, h⟩
        exact absurd h (by show ¬ 2 ≤ 1; decide)
end
end K7

set_option Elab.async false
set_option linter.all false
set_option maxRecDepth 100000
set_option maxHeartbeats 4000000
namespace K7
open PySem PySem.Spec PyProof.Rows L2 GX NdefX K24
/-! ### rows of timers in the heap -/
theorem rIx_sq {K : PySem.W.Frag} {H : Hp} {a : Addr} {xs : List V} {i : Nat} {k : Int} {x : V} {Q : VK} (h : Sq H a xs) (hk : k = (i : Int)) (hx : xs[i]? = some x) (q : Q x H) : rIx K (.ref a) (.int k) H Q := by
  subst hk
  rcases h with h | h
  · exact .inl ⟨a, xs, _, x, rfl, rfl, sqL h, atI_nat hx, q⟩
  · exact .inr (.inl ⟨a, xs, _, x, rfl, rfl, sqT h, atI_nat hx, q⟩)
def kn (k : Bool) : Str := if k then "on" else "off"
def kindsV : List V := [.str "on", .str "off"]
/-- what the module's constants are -/
structure Cn (K : PySem.W.Frag) (mg : Str → Option Value) : Prop where
  kinds : ∃ a, mg "ROW_KINDS" = some (.ref a) ∧ ∀ H : Hp, SqT K H a kindsV
def clkV (c : Clk) : List V := [.str (kn c.1), .int (c.2 : Nat)]
def ClkAt (H : Hp) (x : V) (c : Clk) : Prop := ∃ a, x = .ref a ∧ Sq H a (clkV c)
theorem ClkAt.same {H H' : Hp} {x : V} {c : Clk} (s : Same H H') (h : ClkAt H x c) : ClkAt H' x c := by
  obtain ⟨a, e, q⟩ := h
  exact ⟨a, e, q.same s⟩
def RowAt (H : Hp) (x : V) (l : List Clk) : Prop := ∃ a xs, x = .ref a ∧ Sq H a xs ∧ Paired (ClkAt H) xs l ∧ l.length ≤ 100
theorem RowAt.same {H H' : Hp} {x : V} {l : List Clk} (s : Same H H') (h : RowAt H x l) : RowAt H' x l := by
  obtain ⟨a, xs, e, q, p, hl⟩ := h
  exact ⟨a, xs, e, q.same s, paired_imp (fun _ _ h => h.same s) p, hl⟩
/-- .. of tuples throughout -/
def ClkT (H : Hp) (x : V) (c : Clk) : Prop := ∃ a, x = .ref a ∧ H a = some (.tup (clkV c))
theorem ClkT.same {H H' : Hp} {x : V} {c : Clk} (s : Same H H') (h : ClkT H x c) : ClkT H' x c := by
  obtain ⟨a, e, q⟩ := h
  exact ⟨a, e, s _ _ q⟩
def ClksT (H : Hp) (xs : List V) (l : List Clk) : Prop := Paired (ClkT H) xs l
theorem ClksT.same {H H' : Hp} {xs : List V} {l : List Clk} (s : Same H H') (h : ClksT H xs l) : ClksT H' xs l := paired_imp (fun _ _ h => h.same s) h
def RowT (H : Hp) (a : Addr) (l : List Clk) : Prop := ∃ xs, H a = some (.tup xs) ∧ ClksT H xs l
theorem RowT.same {H H' : Hp} {a : Addr} {l : List Clk} (s : Same H H') (h : RowT H a l) : RowT H' a l := by
  obtain ⟨xs, e, p⟩ := h
  exact ⟨xs, s _ _ e, p.same s⟩
theorem RowT.at {H : Hp} {a : Addr} {l : List Clk} (h : RowT H a l) (hl : l.length ≤ 100) : RowAt H (.ref a) l := by
  obtain ⟨xs, e, p⟩ := h
  exact ⟨a, xs, rfl, .inr e, paired_imp (fun _ _ ⟨b, e, h⟩ => ⟨b, e, .inr h⟩) p, hl⟩
/-- what is no pair of a kind and a number -/
def BadClk (H : Hp) (y : V) : Prop := (∃ n, y = .int n) ∨ ∃ b ys, y = .ref b ∧ H b = some (.tup ys) ∧ ((ys.length ≠ 2 ∧ ys.length ≤ 10) ∨ ∃ z v, ys = [.str z, v] ∧ ((V.str z ∉ kindsV) ∨ (V.str z ∈ kindsV ∧ ((∃ i, v = .int i) ∨ (∃ b, v = .bl b) ∨ ∃ s, v = .str s) ∧ wholeN 0 v = false)))
theorem BadClk.same {H H' : Hp} {y : V} (s : Same H H') (h : BadClk H y) : BadClk H' y := h.elim .inl fun ⟨b, ys, e, h, r⟩ => .inr ⟨b, ys, e, s _ _ h, r⟩
def BadRowV (H : Hp) (x : V) : Prop := Scal x ∨ ∃ a xs i y l, x = .ref a ∧ H a = some (.tup xs) ∧ Paired (ClkAt H) (xs.take i) l ∧ xs[i]? = some y ∧ BadClk H y
theorem BadRowV.same {H H' : Hp} {x : V} (s : Same H H') (h : BadRowV H x) : BadRowV H' x := h.elim .inl fun ⟨a, xs, i, y, l, e, h, p, hy, b⟩ => .inr ⟨a, xs, i, y, l, e, s _ _ h, paired_imp (fun _ _ h => h.same s) p, hy, b.same s⟩
def spIsRow : Sp := fun vs H Q _ => ∃ x : V, vs = [x] ∧ (((∃ l, RowAt H x l) ∧ ∀ H', Same H H' → Q (.bl true) H') ∨ (BadRowV H x ∧ ∀ H', Same H H' → Q (.bl false) H'))
theorem inV_kinds {z : Str} (h : V.str z ∉ kindsV) : inV (.str z) kindsV = false := by
  unfold inV kindsV
  unfold kindsV at h
  simp only [List.mem_cons, List.not_mem_nil, or_false, not_or] at h
  simp only [List.any_cons, List.any_nil, Bool.or_false, Bool.or_eq_false_iff]
  exact ⟨decide_eq_false fun e => h.1 (congrArg V.str e.symm), decide_eq_false fun e => h.2 (congrArg V.str e.symm)⟩
theorem inV_kinds' {z : Str} (h : V.str z ∈ kindsV) : inV (.str z) kindsV = true := by
  unfold kindsV at h
  simp only [List.mem_cons, List.not_mem_nil, or_false] at h
  rcases h with e | e <;> rw [e] <;> decide
theorem kn_mem (k : Bool) : V.str (kn k) ∈ kindsV := by cases k <;> decide
theorem iteFq {b : Bool} {A B : Prop} (h : b = false) (x : B) : if b = true then A else B := by
  subst h
  exact x
theorem iteTq {b : Bool} {A B : Prop} (h : b = true) (x : A) : if b = true then A else B := by
  subst h
  exact x
theorem forSeq {K : PySem.W.Frag} {a : Addr} {xs : List V} {g : TG} {tb : TS} {D : Ends} {σ : L2.St} {H : Hp} (Pv : Nat → L2.St → Hp → Prop) (hq : Sq H a xs) (h0 : Pv 0 σ H) (hl : ∀ i σ H' o, Pv i σ H' → H a = some o → H' a = some o)
    (turn : ∀ i x σ H, xs[i]? = some x → Pv i σ H → g x σ H fun σ2 H2 => tb { nx := Pv (i + 1), rt := D.rt, bk := D.nx, ct := Pv (i + 1) } σ2 H2) (done : ∀ σ H, Pv xs.length σ H → D.nx σ H) :
    (SqL K H a xs ∧ ForR (Itl K a) g tb D σ H) ∨ (SqT K H a xs ∧ ForR (Itt K a) g tb D σ H) := by
  rcases hq with hq | hq
  · exact .inl ⟨sqL hq, for_list (K := K) (xs := xs) Pv h0 (fun i σ H' _ p => sqL (hl _ _ _ _ p hq)) turn done⟩
  · exact .inr ⟨sqT hq, for_tup (K := K) (xs := xs) Pv h0 (fun i σ H' _ p => sqT (hl _ _ _ _ p hq)) turn done⟩
theorem lenV_sq {K : PySem.W.Frag} {H : Hp} {a : Addr} {xs : List V} {n : Nat} (h : Sq H a xs) (e : xs.length = n) : LenV K (.ref a) H n := h.elim (fun z => .inl ⟨_, sqL z, e.symm⟩) fun z => .inr ⟨_, sqT z, e.symm⟩
section
variable {P : Program} {w : World} {K : PySem.W.Frag} {mg : Str → Option Value} {base : Heap}
theorem ok_isRow {f fL fW : Addr} {fd fdL fdW : FuncData} {k : Nat} (F : Fun K "_is_timer_row" "_is_timer_row" sIsRow f fd) (B : Bl mg) (C : Cn K mg) (FL : Fun K "is_listed" "is_listed" sListed fL fdL) (bL : Binds K fdL ["value"] []) (gL : mg "is_listed" = some (.ref fL))
    (FW : Fun K "is_whole" "is_whole" sWhole fW fdW) (bW : Binds K fdW ["value", "least", "most"] []) (gW : mg "is_whole" = some (.ref fW)) : FnOk P w K mg base CX0 (k + 2) f fd ["row"] spIsRow := by
  obtain ⟨aK, mK, hK⟩ := C.kinds
  have GL : FnOk P w K mg base CX0 (k + 1) fL fdL ["value"] spListed := ok_listed FL B
  have GW : FnOk P w K mg base CX0 (k + 1) fW fdW ["value", "least", "most"] spWholeN := ok_wholeN FW B
  refine F.ok scIsRow (fun vs H Q E h => ?_) (fun cdv A outer s H vs Q E hr h => ?_)
  · obtain ⟨x, rfl, _⟩ := h
    rfl
  · obtain ⟨x, rfl, h⟩ := h
    refine ⟨_, pss_cons (ps_if (pt_not (pt_val (pe_call GL hr (by rfl) gL FL.kp bL .nil pass0 (pa_cons (pv 0) pa_nil)))) (pss_one (ps_ret pe_bl)) pss_nil)
      (pss_cons (ps_for PassesOwn.never rfl (pi_seq (pv 0)) (pg_name (i := 1) scIsRow.nd rfl (Or.inl rfl))
        (pss_cons (ps_if (PW.pt (pw_or (pt_not (pt_val (pe_call GL hr (by rfl) gL FL.kp bL .nil pass0 (pa_cons (pv 1) pa_nil)))) (pw_or1 (pt_cmpR op_ne (pe_callB call_len (by rfl) B.len PySem.boot_len (pa_cons (pv 1) pa_nil)) pe_int (nomark _))))) (pss_one (ps_ret pe_bl)) pss_nil)
        (pss_one (ps_if (PW.pt (pw_or (pt_cmpR op_notIn_seq (pe_ix (r := rIx K) ix_seq (pv 1) pe_int (fun _ _ => rfl)) (pe_glob (v := .ref aK) (by rfl) mK rfl) (by rfl)) (pw_or1 (pt_not (pt_val (pe_call GW hr (by rfl) gW FW.kp bW .nil pass0 (pa_cons (pe_ix (r := rIx K) ix_seq (pv 1) pe_int (fun _ _ => rfl)) (pa_cons pe_int (pa_cons pe_non pa_nil))))))))) (pss_one (ps_ret pe_bl)) pss_nil))))
      (pss_one (ps_ret pe_bl))), ?_⟩
    rcases h with ⟨⟨l, a, xs, rfl, hq, pl, hl⟩, q⟩ | ⟨hb, q⟩
    · refine ⟨.ref a, rfl, .ref a, rfl, .inl ⟨a, _, rfl, hq, fun H1 s1 => ⟨_, rfl, iteF ?_⟩⟩⟩
      refine ⟨.ref a, rfl, a, xs, rfl, forSeq (D := { nx := _, rt := Q }) (fun i σ H' => (∃ c1, σ = [some (.ref a), c1]) ∧ Same H1 H') (hq.same s1) ⟨⟨_, rfl⟩, Same.refl _⟩ (fun i σ H' o p e => p.2 _ _ e) ?_ ?_⟩
      · rintro i y σ H2 hy ⟨⟨c1, rfl⟩, s2'⟩
        have s2 := s1.trans s2'
        obtain ⟨c, hc, b, rfl, hb⟩ := paired_get pl hy
        refine ⟨.ref b, rfl, .ref b, rfl, .inl ⟨b, _, rfl, hb.same s2, fun H3 s3 => ⟨_, rfl, iteF ?_⟩⟩⟩
        have sAll := s2.trans s3
        have hb3 := hb.same sAll
        refine ⟨.ref b, rfl, .ref b, 2, rfl, lenV_sq hb3 rfl, rfl, _, rfl, iteFq (by decide) ?_⟩
        refine ⟨.ref b, rfl, rIx_sq hb3 (i := 0) rfl rfl ⟨aK, kindsV, rfl, .inr (hK _), rfl, rfl, _, rfl, ?_⟩⟩
        refine iteFq (by show (!inV (.str (kn c.1)) kindsV) = false; rw [inV_kinds' (kn_mem _)]; rfl) ?_
        refine ⟨.ref b, rfl, rIx_sq hb3 (i := 1) rfl rfl ⟨.int (c.2 : Nat), 0, rfl, .inl ⟨_, rfl⟩, ⟨_, rfl, ?_⟩⟩⟩
        rw [show wholeN 0 (.int (c.2 : Nat)) = true from decide_eq_true (Int.natCast_nonneg c.2)]
        refine iteF ?_
        exact ⟨⟨_, rfl⟩, s2'.trans s3⟩
      · rintro σ H2 ⟨⟨c1, rfl⟩, s2⟩
        exact q H2 (s1.trans s2)
    · rcases hb with hs | ⟨a, xs, p, y, l, rfl, ha, pl, hy, hb⟩
      · exact ⟨x, rfl, x, rfl, .inr ⟨hs, fun H1 s1 => ⟨_, rfl, iteT (q H1 s1)⟩⟩⟩
      · refine ⟨.ref a, rfl, .ref a, rfl, .inl ⟨a, _, rfl, .inr ha, fun H1 s1 => ⟨_, rfl, iteF ?_⟩⟩⟩
        have hp : p < xs.length := (List.getElem?_eq_some_iff.mp hy).1
        refine ⟨.ref a, rfl, a, xs, rfl, forSeq (D := { nx := _, rt := Q }) (fun i σ H' => (∃ c1, σ = [some (.ref a), c1]) ∧ Same H1 H' ∧ i ≤ p) (.inr (s1 _ _ ha)) ⟨⟨_, rfl⟩, Same.refl _, Nat.zero_le _⟩ (fun i σ H' o p e => p.2.1 _ _ e) ?_ ?_⟩
        · rintro i z σ H2 hz ⟨⟨c1, rfl⟩, s2', hi⟩
          have s2 := s1.trans s2'
          by_cases hip : i = p
          · subst hip
            rw [hy] at hz
            cases hz
            have hb2 := hb.same s2
            rcases hb2 with ⟨n, rfl⟩ | ⟨b, ys, rfl, hys, hb2⟩
            · exact ⟨.int n, rfl, .int n, rfl, .inr ⟨.inr (.inl ⟨n, rfl⟩), fun H3 s3 => ⟨_, rfl, iteT (q H3 (s2.trans s3))⟩⟩⟩
            · refine ⟨.ref b, rfl, .ref b, rfl, .inl ⟨b, _, rfl, .inr hys, fun H3 s3 => ⟨_, rfl, iteF ?_⟩⟩⟩
              have hy3 : Sq H3 b ys := .inr (s3 _ _ hys)
              have s03 := s2.trans s3
              rcases hb2 with ⟨h2, h10⟩ | ⟨z, v, rfl, hzv⟩
              · refine ⟨.ref b, rfl, .ref b, ys.length, rfl, lenV_sq hy3 rfl, rfl, _, rfl, iteTq ?_ (q H3 s03)⟩
                show (!decide (V.int (ys.length : Nat) = V.int 2)) = true
                rw [decide_eq_false fun e => h2 (by have := V.int.inj e; omega)]
                rfl
              · refine ⟨.ref b, rfl, .ref b, 2, rfl, lenV_sq hy3 rfl, rfl, _, rfl, iteFq (by decide) ?_⟩
                refine ⟨.ref b, rfl, rIx_sq hy3 (i := 0) rfl rfl ⟨aK, kindsV, rfl, .inr (hK _), rfl, rfl, _, rfl, ?_⟩⟩
                rcases hzv with hz | ⟨hz, hv, hw⟩
                · exact iteTq (by show (!inV (.str z) kindsV) = true; rw [inV_kinds hz]; rfl) (q H3 s03)
                · refine iteFq (by show (!inV (.str z) kindsV) = false; rw [inV_kinds' hz]; rfl) ?_
                  refine ⟨.ref b, rfl, rIx_sq hy3 (i := 1) rfl rfl ⟨v, 0, rfl, hv, ⟨_, rfl, ?_⟩⟩⟩
                  rw [hw]
                  exact iteT (q H3 s03)
          · have hz2 : (xs.take p)[i]? = some z := by rw [List.getElem?_take, if_pos (by omega)]; exact hz
            obtain ⟨c, hc, b, rfl, hb⟩ := paired_get pl hz2
            refine ⟨.ref b, rfl, .ref b, rfl, .inl ⟨b, _, rfl, hb.same s2, fun H3 s3 => ⟨_, rfl, iteF ?_⟩⟩⟩
            have sAll := s2.trans s3
            have hb3 := hb.same sAll
            refine ⟨.ref b, rfl, .ref b, 2, rfl, lenV_sq hb3 rfl, rfl, _, rfl, iteFq (by decide) ?_⟩
            refine ⟨.ref b, rfl, rIx_sq hb3 (i := 0) rfl rfl ⟨aK, kindsV, rfl, .inr (hK _), rfl, rfl, _, rfl, ?_⟩⟩
            refine iteFq (by show (!inV (.str (kn c.1)) kindsV) = false; rw [inV_kinds' (kn_mem _)]; rfl) ?_
            refine ⟨.ref b, rfl, rIx_sq hb3 (i := 1) rfl rfl ⟨.int (c.2 : Nat), 0, rfl, .inl ⟨_, rfl⟩, ⟨_, rfl, ?_⟩⟩⟩
            rw [show wholeN 0 (.int (c.2 : Nat)) = true from decide_eq_true (Int.natCast_nonneg c.2)]
            refine iteF ?_
            exact ⟨⟨_, rfl⟩, s2'.trans s3, by omega⟩
        · rintro σ H2 ⟨_, _, h⟩
          omega
end
end K7

set_option Elab.async false
set_option linter.all false
set_option maxRecDepth 100000
set_option maxHeartbeats 4000000
namespace K7
open PySem PySem.Spec PyProof.Rows L2 GX NdefX K24
theorem clks_upd {H : Hp} {D : Addr} {o : HO} {ts us : List V} {l : List Clk} (eD : H D = some (.lst us)) (p : ClksT H ts l) : ClksT (upd H D o) ts l := paired_imp (fun x c ⟨a, e, h⟩ => ⟨a, e, by rw [upd_ne (fun z => by rw [z, eD] at h; cases h)]; exact h⟩) p
theorem clk_upd {H : Hp} {D : Addr} {o : HO} {x : V} {us : List V} {c : Clk} (eD : H D = some (.lst us)) (p : ClkT H x c) : ClkT (upd H D o) x c := by
  obtain ⟨a, e, h⟩ := p
  exact ⟨a, e, by rw [upd_ne (fun z => by rw [z, eD] at h; cases h)]; exact h⟩
theorem none_of_same {H H' : Hp} {l : Addr} (s : Same H H') (n : H' l = none) : H l = none := by
  cases e : H l with
  | none => rfl
  | some o =>
    rw [s _ _ e] at n
    cases n
/-- a list of pairs made by a comprehension -/
theorem lcClks {J : It} {n : Nat} {g : TG} {te : TE} {vs : List Nat} {σ : L2.St} {H1 : Hp} {D : Addr} {Qd : Hp → Prop} (cs : Nat → Clk) (nD : H1 D = none) (hn : n ≤ 4000) (go : ∀ i H, i < n → Same H1 H → J.go i H) (stop : ∀ H, Same H1 H → J.stop n H)
    (turn : ∀ i x H H' (Qk : VK), i < n → Same H1 H → J.yld i H x H' → (∀ y H4, ClkT H4 y (cs i) → Same H H4 → Qk y H4) → g x (wipe σ vs) H' fun σ2 H2 => wipe σ2 vs = wipe σ vs ∧ te σ2 H2 Qk)
    (done : ∀ H ts, Same H1 H → H D = some (.lst ts) → ClksT H ts ((List.range n).map cs) → Qd H) :
    ∃ W : Nat → Nat → Hp → Prop, (∃ m, W 0 m (upd H1 D (.lst []))) ∧ ∀ i m H, W i m H →
      (J.stop i H ∧ Qd H) ∨ (J.go i H ∧ ∃ Nx : Hp → Prop, (∀ H', Nx H' → ∃ m', m' < m ∧ W (i + 1) m' H') ∧ ∀ x H', J.yld i H x H' → g x (wipe σ vs) H' fun σ2 H2 => wipe σ2 vs = wipe σ vs ∧ tYes σ2 H2 fun b H3 =>
        if b = true then te σ2 H3 fun y H4 => ∃ acc, H4 D = some (.lst acc) ∧ acc.length < sizeLine ∧ Nx (upd H4 D (.lst (acc ++ [y]))) else Nx H3) := by
  refine ⟨fun i m H => m = n - i ∧ i ≤ n ∧ Same H1 H ∧ ∃ ts, H D = some (.lst ts) ∧ ClksT H ts ((List.range i).map cs), ⟨n, rfl, Nat.zero_le _, same_upd nD, [], upd_same, .nil⟩, ?_⟩
  rintro i m H ⟨rfl, hi, sm, ts, eD, pt⟩
  by_cases hlt : i < n
  · refine .inr ⟨go i H hlt sm, fun H' => Same H1 H' ∧ ∃ ts, H' D = some (.lst ts) ∧ ClksT H' ts ((List.range (i + 1)).map cs), fun H' p => ⟨n - (i + 1), by omega, rfl, hlt, p.1, p.2⟩, fun x H' y => ?_⟩
    refine turn i x H H' _ hlt sm y fun y H4 eT s4 => ⟨ts, s4 _ _ eD, ?_, fun b o e => ?_, _, upd_same, ?_⟩
    · rw [pt.length, List.length_map, List.length_range, sizeLine_eq]
      omega
    · rw [upd_ne (ne_of_none e nD)]
      exact s4 _ _ (sm _ _ e)
    · rw [List.range_succ, List.map_append]
      exact paired_snoc (clks_upd (s4 _ _ eD) (pt.same s4)) (clk_upd (s4 _ _ eD) eT)
  · have e : i = n := by omega
    subst e
    exact .inl ⟨stop H sm, done H ts sm eD pt⟩
theorem range_map_get {α : Type} (l : List α) (d : α) : (List.range l.length).map (fun i => l.getD i d) = l := by
  refine List.ext_getElem (by rw [List.length_map, List.length_range]) fun i h1 h2 => ?_
  rw [List.getElem_map, List.getElem_range, List.getD_eq_getElem?_getD, List.getElem?_eq_getElem h2]
  rfl
theorem getD_at {α : Type} {l : List α} {i : Nat} {x d : α} (h : l[i]? = some x) : l.getD i d = x := by
  rw [List.getD_eq_getElem?_getD, h]
  rfl
def spTold (CN : Addr) : Sp := fun vs H Q E => ∃ (x : V) (z : Str), vs = [x, .str z] ∧ z.length ≤ 100 ∧ ((∃ l, RowAt H x l ∧ ∀ T H', Same H H' → H T = none → RowT H' T l → Q (.ref T) H') ∨ (BadRowV H x ∧ Rai E CN H [("word", .str z)]))
def spCkDelay (CN : Addr) : Sp := fun vs H Q E => ∃ (x : V) (z : Str), vs = [x, .str z] ∧ z.length ≤ 100 ∧ ((∃ i, x = .int i) ∨ (∃ b, x = .bl b) ∨ ∃ z, x = .str z) ∧ ((wholeN 0 x = true ∧ Q .non H) ∨ (wholeN 0 x = false ∧ Rai E CN H [("word", .str z)]))
def spCkRow (CN : Addr) : Sp := fun vs H Q E => ∃ (x : V), vs = [x] ∧ ((∃ l, RowAt H x l ∧ ∀ H', Same H H' → Q .non H') ∨ (BadRowV H x ∧ Rai E CN H [("word", .str "row")]))
section
variable {P : Program} {w : World} {K : PySem.W.Frag} {mg : Str → Option Value} {base : Heap}
theorem ok_told {f fR fL fW : Addr} {fd fdR fdL fdW : FuncData} {k : Nat} (F : Fun K "_told_row" "_told_row" sTold f fd) (B : Bl mg) (C : Cn K mg) (X : Xc P K mg) (FR : Fun K "_is_timer_row" "_is_timer_row" sIsRow fR fdR) (bR : Binds K fdR ["row"] []) (gR : mg "_is_timer_row" = some (.ref fR))
    (FL : Fun K "is_listed" "is_listed" sListed fL fdL) (bL : Binds K fdL ["value"] []) (gL : mg "is_listed" = some (.ref fL))
    (FW : Fun K "is_whole" "is_whole" sWhole fW fdW) (bW : Binds K fdW ["value", "least", "most"] []) (gW : mg "is_whole" = some (.ref fW)) : FnOk P w K mg base (CX P w) (k + 3) f fd ["row", "word"] (spTold X.CN) := by
  have GR : FnOk P w K mg base CX0 (k + 2) fR fdR ["row"] spIsRow := ok_isRow FR B C FL bL gL FW bW gW
  have GN : FnOk P w K mg base CX0 (k + 1) X.fN X.dN ["self", "word"] (spNum X.CN) := ok_num X.TN X.nN
  refine F.okX scTold (fun vs H Q E h => ?_) (fun cdv A outer s H vs Q E hr h => ?_)
  · obtain ⟨x, z, rfl, _⟩ := h
    rfl
  · obtain ⟨x, z, rfl, hz, h⟩ := h
    refine ⟨_, pss_cons (ps_if (pt_not (pt_val (pe_call GR hr (by rfl) gR FR.kp bR .nil pass0 (pa_cons (pv 0) pa_nil))))
        (pss_one (ps_raise rfl (takes_of rfl rfl rfl rfl) (pmk_oex X.TN.O X.TN.iC X.TN.tI GN hr X.bN .nil pass0 (by rfl) X.gN (pa_cons (pv 1) pa_nil)))) pss_nil)
      (pss_one (ps_ret (pe_callTy call_tuple_of (by rfl) B.tuple (by decide +kernel) (pa_cons
        (pe_lc (own := [("pair", 2)]) (g := gName 2) (tt := tYes) rfl scTold.nd (pi_seq (pv 0)) (blkOk_by (own := [("pair", 2)]) (N := ["row", "word", "pair"]) (sc := defScope sTold) (by decide +kernel)) (fun _ _ _ _ _ => pg_name (i := 2) scTold.nd rfl (Or.inl rfl)) (fun _ _ _ _ _ => pts_nil)
          (fun _ _ _ _ _ => pe_callTy (T := "tuple") (r := fun xs H Q => ∃ p ys, xs = [V.ref p] ∧ ((SqL K H p ys ∧ ∀ l, H l = none → Q (.ref l) (upd H l (.tup ys))) ∨ (SqT K H p ys ∧ Q (.ref p) H))) call_tuple_of (by rfl) B.tuple (by decide +kernel) (pa_cons (pv 2) pa_nil))) pa_nil)))), ?_⟩
    rcases h with ⟨l, hrow, q⟩ | ⟨hb, hx⟩
    · refine ⟨x, rfl, x, rfl, .inl ⟨⟨l, hrow⟩, fun H1 s1 => ⟨_, rfl, iteF ?_⟩⟩⟩
      obtain ⟨a, xs, rfl, hq, pl, hl⟩ := hrow.same s1
      have lxs : xs.length = l.length := pl.length
      have turn : ∀ i x H2 (Qk : VK), i < xs.length → Same H1 H2 → xs[i]? = some x → (∀ y H4, ClkT H4 y (l.getD i (true, 0)) → Same H2 H4 → Qk y H4) →
          ∃ p ys, [x] = [V.ref p] ∧ ((SqL K H2 p ys ∧ ∀ l, H2 l = none → Qk (.ref l) (upd H2 l (.tup ys))) ∨ (SqT K H2 p ys ∧ Qk (.ref p) H2)) := by
        intro i x H2 Qk hi s2 hx hk
        obtain ⟨c, hc, b, rfl, hb⟩ := paired_get pl hx
        rw [getD_at hc] at hk
        rcases hb.same s2 with e | e
        · exact ⟨b, _, rfl, .inl ⟨sqL e, fun t nt => hk _ _ ⟨t, rfl, upd_same⟩ (same_upd nt)⟩⟩
        · exact ⟨b, _, rfl, .inr ⟨sqT e, hk _ _ ⟨b, rfl, e⟩ (Same.refl _)⟩⟩
      have fin : ∀ (D : Addr) (H2 : Hp) ts, Same H1 H2 → H2 D = some (.lst ts) → ClksT H2 ts ((List.range xs.length).map fun i => l.getD i (true, 0)) → ∃ p ys, [V.ref D] = [V.ref p] ∧ ((SqL K H2 p ys ∧ ∀ l, H2 l = none → Q (.ref l) (upd H2 l (.tup ys))) ∨ (SqT K H2 p ys ∧ Q (.ref p) H2)) := by
        intro D H2 ts s2 eD pt
        rw [lxs, range_map_get] at pt
        exact ⟨D, ts, rfl, .inl ⟨sqL eD, fun t nt => q t _ (s1.trans (s2.trans (same_upd nt))) (none_of_same (s1.trans s2) nt) ⟨ts, upd_same, pt.same (same_upd nt)⟩⟩⟩
      rcases hq with hq | hq
      · refine ⟨.ref a, rfl, a, xs, rfl, .inl ⟨sqL hq, fun D nD => ?_⟩⟩
        refine lcClks (n := xs.length) (fun i => l.getD i (true, 0)) nD (by omega) (fun i H2 h s2 => ⟨xs, xs[i], sqL (s2 _ _ hq), List.getElem?_eq_getElem h⟩) (fun H2 s2 => ⟨xs, sqL (s2 _ _ hq), Nat.le_refl _⟩) (fun i x H2 H' Qk hi s2 y hk => ?_) (fun H2 ts s2 eD pt => fin D H2 ts s2 eD pt)
        obtain ⟨rfl, hx⟩ := y
        exact ⟨rfl, x, rfl, turn i x H' Qk hi s2 (hx xs (sqL (s2 _ _ hq))) hk⟩
      · refine ⟨.ref a, rfl, a, xs, rfl, .inr ⟨sqT hq, fun D nD => ?_⟩⟩
        refine lcClks (n := xs.length) (fun i => l.getD i (true, 0)) nD (by omega) (fun i H2 h s2 => ⟨xs, xs[i], sqT (s2 _ _ hq), List.getElem?_eq_getElem h⟩) (fun H2 s2 => ⟨xs, sqT (s2 _ _ hq), Nat.le_refl _⟩) (fun i x H2 H' Qk hi s2 y hk => ?_) (fun H2 ts s2 eD pt => fin D H2 ts s2 eD pt)
        obtain ⟨rfl, hx⟩ := y
        exact ⟨rfl, x, rfl, turn i x H' Qk hi s2 (hx xs (sqT (s2 _ _ hq))) hk⟩
    · refine ⟨x, rfl, x, rfl, .inr ⟨hb, fun H1 s1 => ⟨_, rfl, iteT ?_⟩⟩⟩
      exact ⟨.str z, rfl, mkO_num hz (hx.same s1) (Same.refl _)⟩
theorem ok_ckDelay {f fW : Addr} {fd fdW : FuncData} {k : Nat} (F : Fun K "_check_delay" "_check_delay" sCkDelay f fd) (B : Bl mg) (X : Xc P K mg)
    (FW : Fun K "is_whole" "is_whole" sWhole fW fdW) (bW : Binds K fdW ["value", "least", "most"] []) (gW : mg "is_whole" = some (.ref fW)) : FnOk P w K mg base (CX P w) (k + 3) f fd ["delay", "word"] (spCkDelay X.CN) := by
  have GW : FnOk P w K mg base CX0 (k + 2) fW fdW ["value", "least", "most"] spWholeN := ok_wholeN FW B
  have GN : FnOk P w K mg base CX0 (k + 1) X.fN X.dN ["self", "word"] (spNum X.CN) := ok_num X.TN X.nN
  refine F.okX scCkDelay (fun vs H Q E h => ?_) (fun cdv A outer s H vs Q E hr h => ?_)
  · obtain ⟨x, z, rfl, _⟩ := h
    rfl
  · obtain ⟨x, z, rfl, hz, hk, h⟩ := h
    refine ⟨_, pss_one (ps_if (pt_not (pt_val (pe_call GW hr (by rfl) gW FW.kp bW .nil pass0 (pa_cons (pv 0) (pa_cons pe_int (pa_cons pe_non pa_nil))))))
        (pss_one (ps_raise rfl (takes_of rfl rfl rfl rfl) (pmk_oex X.TN.O X.TN.iC X.TN.tI GN hr X.bN .nil pass0 (by rfl) X.gN (pa_cons (pv 1) pa_nil)))) pss_nil), ?_⟩
    refine ⟨x, rfl, x, 0, rfl, hk, ⟨_, rfl, ?_⟩⟩
    rcases h with ⟨h, q⟩ | ⟨h, hx⟩
    · rw [h]
      exact iteF q
    · rw [h]
      exact iteT ⟨.str z, rfl, mkO_num hz hx (Same.refl _)⟩
theorem ok_ckRow {f fT fR fL fW : Addr} {fd fdT fdR fdL fdW : FuncData} {k : Nat} (F : Fun K "check_timer_row" "check_timer_row" sCkRow f fd) (B : Bl mg) (C : Cn K mg) (X : Xc P K mg) (FT : Fun K "_told_row" "_told_row" sTold fT fdT) (bT : Binds K fdT ["row", "word"] []) (gT : mg "_told_row" = some (.ref fT))
    (FR : Fun K "_is_timer_row" "_is_timer_row" sIsRow fR fdR) (bR : Binds K fdR ["row"] []) (gR : mg "_is_timer_row" = some (.ref fR))
    (FL : Fun K "is_listed" "is_listed" sListed fL fdL) (bL : Binds K fdL ["value"] []) (gL : mg "is_listed" = some (.ref fL))
    (FW : Fun K "is_whole" "is_whole" sWhole fW fdW) (bW : Binds K fdW ["value", "least", "most"] []) (gW : mg "is_whole" = some (.ref fW)) : FnOk P w K mg base (CX P w) (k + 4) f fd ["row"] (spCkRow X.CN) := by
  have GT : FnOk P w K mg base (CX P w) (k + 3) fT fdT ["row", "word"] (spTold X.CN) := ok_told FT B C X FR bR gR FL bL gL FW bW gW
  refine F.okX scCkRow (fun vs H Q E h => ?_) (fun cdv A outer s H vs Q E hr h => ?_)
  · obtain ⟨x, rfl, _⟩ := h
    rfl
  · obtain ⟨x, rfl, h⟩ := h
    refine ⟨_, pss_one (ps_expr (pe_call GT hr (by rfl) gT FT.kp bT .nil (passes_call (takes_of rfl rfl rfl rfl) (fun _ _ _ _ h => h)) (pa_cons (pv 0) (pa_cons pe_str pa_nil)))), ?_⟩
    refine ⟨x, rfl, x, "row", rfl, by decide, ?_⟩
    rcases h with ⟨l, hrow, q⟩ | ⟨hb, hx⟩
    · exact .inl ⟨l, hrow, fun T H' s _ _ => q H' s⟩
    · exact .inr ⟨hb, hx⟩
end
end K7

set_option Elab.async false
set_option linter.all false
set_option maxRecDepth 100000
set_option maxHeartbeats 4000000
namespace K7
open PySem PySem.Spec PyProof.Rows L2 GX NdefX K24
/-! ### _worked -/
def metL (k : Bool) : Nat → List Bool → Nat
  | m, [] => m
  | m, x :: xs => metL k (if x = k then m + 1 else 0) xs
theorem metL_snoc (k : Bool) (x : Bool) : ∀ (xs : List Bool) (m : Nat), metL k m (xs ++ [x]) = if x = k then metL k m xs + 1 else 0
  | [], m => rfl
  | y :: xs, m => metL_snoc k x xs _
theorem metL_le (k : Bool) : ∀ (xs : List Bool) (m : Nat), metL k m xs ≤ m + xs.length
  | [], m => Nat.le_refl _
  | y :: xs, m => by
    have h : metL k (if y = k then m + 1 else 0) xs ≤ (if y = k then m + 1 else 0) + xs.length := metL_le k xs _
    show metL k (if y = k then m + 1 else 0) xs ≤ m + (xs.length + 1)
    split at h <;> simp_all <;> omega
theorem wf_snoc (k : Bool) (n : Nat) (x : Bool) : ∀ (xs : List Bool) (m : Nat), wf k n m (xs ++ [x]) = wf k n m xs ++ [if n < metL k m (xs ++ [x]) then k else !k]
  | [], m => rfl
  | y :: xs, m => by
    show _ :: wf k n _ (xs ++ [x]) = _ :: (wf k n _ xs ++ _)
    rw [wf_snoc k n x xs]
    rfl
theorem bsV_snoc (xs : List Bool) (x : Bool) : bsV (xs ++ [x]) = bsV xs ++ [.int (b2n x : Nat)] := List.map_append
def stP (c : Clk) : Nat := if c.1 = true then 0 else c.2 + 1
theorem stP_fit (c : Clk) : Fit (stP c) c := by
  obtain ⟨k, n⟩ := c
  cases k with
  | true => exact rfl
  | false => exact Nat.le_succ n
def spWorked : Sp := fun vs H Q _ => ∃ (c : Clk) (a : Addr) (xs : List Bool), vs = [.str (kn c.1), .int (c.2 : Nat), .ref a] ∧ Sq H a (bsV xs) ∧ xs.length ≤ 1000 ∧
  ∀ D H', Same H H' → H D = none → H' D = some (.lst (bsV (wf c.1 c.2 (stP c) xs))) → Q (.ref D) H'
section
variable {P : Program} {w : World} {K : PySem.W.Frag} {mg : Str → Option Value} {base : Heap}
theorem ok_worked {f : Addr} {fd : FuncData} {k : Nat} (F : Fun K "_worked" "_worked" sWorked f fd) (B : Bl mg) : FnOk P w K mg base CX0 (k + 1) f fd ["kind", "number", "bits"] spWorked := by
  refine F.ok scWorked (fun vs H Q E h => ?_) (fun cdv A outer s H vs Q E hr h => ?_)
  · obtain ⟨c, a, xs, rfl, _⟩ := h
    rfl
  · obtain ⟨⟨b, n⟩, a, xs, rfl, hq, hl, q⟩ := h
    refine ⟨_, pss_cons (ps_set (i := 3) scWorked.nd rfl (.inl rfl) (pe_ifExp (pt_cmpR op_eq (pv 0) pe_str (nomark _)) pe_int pe_int))
      (pss_cons (ps_set (i := 4) scWorked.nd rfl (.inl rfl) (pe_ifExp (pt_cmpR op_eq (pv 0) pe_str (nomark _)) pe_int (pe_op op_add (pv 1) pe_int)))
      (pss_cons (ps_set (i := 5) scWorked.nd rfl (.inl rfl) (pe_lst pa_nil))
      (pss_cons (ps_for PassesOwn.never rfl (pi_seq (pv 2)) (pg_name (i := 6) scWorked.nd rfl (Or.inl rfl))
        (pss_cons (ps_set (i := 4) scWorked.nd rfl (.inl rfl) (pe_ifExp (pt_cmpR op_eq (pv 6) (pv 3) (nomark _)) (pe_op op_add (pv 4) pe_int) pe_int))
        (pss_one (ps_expr (pe_bm PySem.F.plainAttrs_list PySem.F.slot_list_append PySem.F.type_list_append mt_append (pv 5) (pa_cons (pe_ifExp (pt_cmpR op_gt (pv 4) (pv 1) (nomark _)) (pv 3) (pe_op op_sub pe_int (pv 3))) pa_nil))))))
      (pss_one (ps_ret (pv 5)))))), ?_⟩
    cases b with
    | true =>
      refine ⟨.str "on", rfl, rfl, _, rfl, iteTq (by decide) ?_⟩
      refine ⟨.str "on", rfl, rfl, _, rfl, iteTq (by decide) ?_⟩
      refine ⟨Nat.zero_le _, fun D nD => ?_⟩
      have sD : Same H (upd H D (.lst [])) := same_upd nD
      refine ⟨.ref a, rfl, a, bsV xs, rfl, forSeq (D := { nx := _, rt := Q }) (fun i σ H' => (∃ c6, σ = [some (.str (kn true)), some (.int (n : Nat)), some (.ref a), some (.int (b2n true : Nat)), some (.int (metL true (stP (true, n)) (xs.take i) : Nat)), some (.ref D), c6]) ∧ Same H H' ∧ H' D = some (.lst (bsV (wf true n (stP (true, n)) (xs.take i))))) (hq.same sD) ⟨⟨_, rfl⟩, sD, upd_same⟩ (fun i σ H' o p e => ?_) ?_ ?_⟩
      · rw [upd_ne (fun z => by subst z; rcases hq with e | e <;> rw [nD] at e <;> cases e)] at e
        exact p.2.1 _ _ e
      · rintro i y σ H2 hy ⟨⟨c6, rfl⟩, s2, e2⟩
        obtain ⟨x, hx, rfl⟩ := bsV_get hy
        have hi := (List.getElem?_eq_some_iff.mp hx).1
        have hm := metL_le true (xs.take i) (stP (true, n))
        have hlen : (bsV (wf true n (stP (true, n)) (xs.take i))).length ≤ 1000 := by rw [bsV_len, wf_len, List.length_take]; omega
        rw [take_get hx, wf_snoc, bsV_snoc, metL_snoc]
        generalize metL true (stP (true, n)) (xs.take i) = m at hm ⊢
        generalize wf true n (stP (true, n)) (xs.take i) = ws at e2 hlen ⊢
        refine ⟨.int (b2n x : Nat), rfl, .int (b2n true : Nat), rfl, rfl, _, rfl, ?_⟩
        by_cases hxb : x = true
        · refine iteTq (by rw [hxb]; exact decide_eq_true rfl) ⟨.int (m : Nat), rfl, _, 1, rfl, rfl, ?_⟩
          refine ⟨.ref D, rfl, .inl ⟨rfl, _, sqL e2⟩, .int ((m + 1 : Nat)), rfl, .int (n : Nat), rfl, _, _, rfl, rfl, _, rfl, ?_⟩
          rw [if_pos hxb]
          by_cases hn : n < m + 1
          · refine iteTq (decide_eq_true (show ((n : Nat) : Int) < ((m + 1 : Nat) : Int) by omega)) ⟨.int (b2n true : Nat), rfl, D, _, _, rfl, rfl, e2, by rw [sizeLine_eq]; omega, ?_⟩
            rw [if_pos hn]
            exact ⟨⟨_, rfl⟩, fun b' o e => by rw [upd_ne (ne_of_none e nD)]; exact s2 _ _ e, upd_same⟩
          · refine iteFq (decide_eq_false (show ¬ ((n : Nat) : Int) < ((m + 1 : Nat) : Int) by omega)) ⟨.int (b2n true : Nat), rfl, 1, _, rfl, rfl, D, _, _, rfl, rfl, e2, by rw [sizeLine_eq]; omega, ?_⟩
            rw [if_neg hn]
            exact ⟨⟨_, rfl⟩, fun b' o e => by rw [upd_ne (ne_of_none e nD)]; exact s2 _ _ e, upd_same⟩
        · refine iteFq (decide_eq_false fun e => hxb (by cases x <;> simp_all [b2n])) ?_
          refine ⟨.ref D, rfl, .inl ⟨rfl, _, sqL e2⟩, .int (0 : Nat), rfl, .int (n : Nat), rfl, _, _, rfl, rfl, _, rfl, ?_⟩
          rw [if_neg hxb]
          by_cases hn : n < 0
          · refine iteTq (decide_eq_true (show ((n : Nat) : Int) < ((0 : Nat) : Int) by omega)) ⟨.int (b2n true : Nat), rfl, D, _, _, rfl, rfl, e2, by rw [sizeLine_eq]; omega, ?_⟩
            rw [if_pos hn]
            exact ⟨⟨_, rfl⟩, fun b' o e => by rw [upd_ne (ne_of_none e nD)]; exact s2 _ _ e, upd_same⟩
          · refine iteFq (decide_eq_false (show ¬ ((n : Nat) : Int) < ((0 : Nat) : Int) by omega)) ⟨.int (b2n true : Nat), rfl, 1, _, rfl, rfl, D, _, _, rfl, rfl, e2, by rw [sizeLine_eq]; omega, ?_⟩
            rw [if_neg hn]
            exact ⟨⟨_, rfl⟩, fun b' o e => by rw [upd_ne (ne_of_none e nD)]; exact s2 _ _ e, upd_same⟩
      · rintro σ H2 ⟨⟨c6, rfl⟩, s2, e2⟩
        rw [bsV_len, List.take_of_length_le (Nat.le_refl _)] at e2
        exact ⟨.ref D, rfl, q D H2 s2 nD e2⟩
    | false =>
      refine ⟨.str "off", rfl, rfl, _, rfl, iteFq (by decide) ?_⟩
      refine ⟨.str "off", rfl, rfl, _, rfl, iteFq (by decide) ⟨.int (n : Nat), rfl, _, 1, rfl, rfl, ?_⟩⟩
      refine ⟨Nat.zero_le _, fun D nD => ?_⟩
      have sD : Same H (upd H D (.lst [])) := same_upd nD
      refine ⟨.ref a, rfl, a, bsV xs, rfl, forSeq (D := { nx := _, rt := Q }) (fun i σ H' => (∃ c6, σ = [some (.str (kn false)), some (.int (n : Nat)), some (.ref a), some (.int (b2n false : Nat)), some (.int (metL false (stP (false, n)) (xs.take i) : Nat)), some (.ref D), c6]) ∧ Same H H' ∧ H' D = some (.lst (bsV (wf false n (stP (false, n)) (xs.take i))))) (hq.same sD) ⟨⟨_, rfl⟩, sD, upd_same⟩ (fun i σ H' o p e => ?_) ?_ ?_⟩
      · rw [upd_ne (fun z => by subst z; rcases hq with e | e <;> rw [nD] at e <;> cases e)] at e
        exact p.2.1 _ _ e
      · rintro i y σ H2 hy ⟨⟨c6, rfl⟩, s2, e2⟩
        obtain ⟨x, hx, rfl⟩ := bsV_get hy
        have hi := (List.getElem?_eq_some_iff.mp hx).1
        have hm := metL_le false (xs.take i) (stP (false, n))
        have hlen : (bsV (wf false n (stP (false, n)) (xs.take i))).length ≤ 1000 := by rw [bsV_len, wf_len, List.length_take]; omega
        rw [take_get hx, wf_snoc, bsV_snoc, metL_snoc]
        generalize metL false (stP (false, n)) (xs.take i) = m at hm ⊢
        generalize wf false n (stP (false, n)) (xs.take i) = ws at e2 hlen ⊢
        refine ⟨.int (b2n x : Nat), rfl, .int (b2n false : Nat), rfl, rfl, _, rfl, ?_⟩
        by_cases hxb : x = false
        · refine iteTq (by rw [hxb]; exact decide_eq_true rfl) ⟨.int (m : Nat), rfl, _, 1, rfl, rfl, ?_⟩
          refine ⟨.ref D, rfl, .inl ⟨rfl, _, sqL e2⟩, .int ((m + 1 : Nat)), rfl, .int (n : Nat), rfl, _, _, rfl, rfl, _, rfl, ?_⟩
          rw [if_pos hxb]
          by_cases hn : n < m + 1
          · refine iteTq (decide_eq_true (show ((n : Nat) : Int) < ((m + 1 : Nat) : Int) by omega)) ⟨.int (b2n false : Nat), rfl, D, _, _, rfl, rfl, e2, by rw [sizeLine_eq]; omega, ?_⟩
            rw [if_pos hn]
            exact ⟨⟨_, rfl⟩, fun b' o e => by rw [upd_ne (ne_of_none e nD)]; exact s2 _ _ e, upd_same⟩
          · refine iteFq (decide_eq_false (show ¬ ((n : Nat) : Int) < ((m + 1 : Nat) : Int) by omega)) ⟨.int (b2n false : Nat), rfl, 1, _, rfl, rfl, D, _, _, rfl, rfl, e2, by rw [sizeLine_eq]; omega, ?_⟩
            rw [if_neg hn]
            exact ⟨⟨_, rfl⟩, fun b' o e => by rw [upd_ne (ne_of_none e nD)]; exact s2 _ _ e, upd_same⟩
        · refine iteFq (decide_eq_false fun e => hxb (by cases x <;> simp_all [b2n])) ?_
          refine ⟨.ref D, rfl, .inl ⟨rfl, _, sqL e2⟩, .int (0 : Nat), rfl, .int (n : Nat), rfl, _, _, rfl, rfl, _, rfl, ?_⟩
          rw [if_neg hxb]
          by_cases hn : n < 0
          · refine iteTq (decide_eq_true (show ((n : Nat) : Int) < ((0 : Nat) : Int) by omega)) ⟨.int (b2n false : Nat), rfl, D, _, _, rfl, rfl, e2, by rw [sizeLine_eq]; omega, ?_⟩
            rw [if_pos hn]
            exact ⟨⟨_, rfl⟩, fun b' o e => by rw [upd_ne (ne_of_none e nD)]; exact s2 _ _ e, upd_same⟩
          · refine iteFq (decide_eq_false (show ¬ ((n : Nat) : Int) < ((0 : Nat) : Int) by omega)) ⟨.int (b2n false : Nat), rfl, 1, _, rfl, rfl, D, _, _, rfl, rfl, e2, by rw [sizeLine_eq]; omega, ?_⟩
            rw [if_neg hn]
            exact ⟨⟨_, rfl⟩, fun b' o e => by rw [upd_ne (ne_of_none e nD)]; exact s2 _ _ e, upd_same⟩
      · rintro σ H2 ⟨⟨c6, rfl⟩, s2, e2⟩
        rw [bsV_len, List.take_of_length_le (Nat.le_refl _)] at e2
        exact ⟨.ref D, rfl, q D H2 s2 nD e2⟩
end
end K7

set_option Elab.async false
set_option linter.all false
set_option maxRecDepth 100000
set_option maxHeartbeats 4000000
namespace K7
open PySem PySem.Spec PyProof.Rows L2 GX NdefX K24
/-! ### _rule_at, _rules -/
def ruN : Ru → Str
  | .nothing => "nothing"
  | .added => "added"
  | .swing => "swing"
  | .tail => "tail"
def ruV : Option Ru → V
  | none => .non
  | some r => .str (ruN r)
theorem paired_got {α β : Type} {F : α → β → Prop} {xs : List α} {ys : List β} (p : Paired F xs ys) : ∀ {i : Nat} {y : β}, ys[i]? = some y → ∃ x, xs[i]? = some x ∧ F x y := by
  induction p with
  | nil => intro i y h; cases h
  | cons f _ ih =>
    intro i y h
    cases i with
    | zero => cases h; exact ⟨_, rfl, f⟩
    | succ i => exact ih h
theorem clks_got {H : Hp} {xs : List V} {l : List Clk} (p : ClksT H xs l) {j : Nat} {c : Clk} (h : l[j]? = some c) : ∃ b, xs[j]? = some (.ref b) ∧ H b = some (.tup (clkV c)) := by
  obtain ⟨x, hx, b, rfl, hb⟩ := paired_got p h
  exact ⟨b, hx, hb⟩
def spRuleAt : Sp := fun vs H Q _ => ∃ (a : Addr) (p : Nat) (l : List Clk), vs = [.ref a, .int (p : Nat)] ∧ RowT H a l ∧ p < l.length ∧ l.length ≤ 100 ∧ Q (ruV (ruleL (l.drop p))) H
section
variable {P : Program} {w : World} {K : PySem.W.Frag} {mg : Str → Option Value} {base : Heap}
theorem ok_ruleAt {f : Addr} {fd : FuncData} {k : Nat} (F : Fun K "_rule_at" "_rule_at" sRuleAt f fd) (B : Bl mg) : FnOk P w K mg base CX0 (k + 1) f fd ["row", "place"] spRuleAt := by
  refine F.ok scRuleAt (fun vs H Q E h => ?_) (fun cdv A outer s H vs Q E hr h => ?_)
  · obtain ⟨a, p, l, rfl, _⟩ := h
    rfl
  · obtain ⟨a, p, l, rfl, ⟨xs, ha, pl⟩, hp, hl, q⟩ := h
    refine ⟨_, pss_cons (ps_if (pt_cmpR op_eq (pe_ix (r := rIxT K) ix_tup (pe_ix (r := rIxT K) ix_tup (pv 0) (pv 1) (fun _ _ => rfl)) pe_int (fun _ _ => rfl)) pe_int (nomark _)) (pss_one (ps_ret pe_str)) pss_nil)
      (pss_cons (ps_if (PW.pt (pw_and (pt_cmpR op_lt (pe_op op_add (pv 1) pe_int) (pe_callB call_len (by rfl) B.len PySem.boot_len (pa_cons (pv 0) pa_nil)) (nomark _))
          (pw_and1 (pt_cmpR op_eq (pe_ix (r := rIxT K) ix_tup (pe_ix (r := rIxT K) ix_tup (pv 0) (pe_op op_add (pv 1) pe_int) (fun _ _ => rfl)) pe_int (fun _ _ => rfl)) (pe_ix (r := rIxT K) ix_tup (pe_ix (r := rIxT K) ix_tup (pv 0) (pv 1) (fun _ _ => rfl)) pe_int (fun _ _ => rfl)) (nomark _))))) (pss_one (ps_ret pe_str)) pss_nil)
      (pss_cons (ps_if (PW.pt (pw_or (pt_cmpR op_ge (pe_op op_add (pv 1) pe_int) (pe_callB call_len (by rfl) B.len PySem.boot_len (pa_cons (pv 0) pa_nil)) (nomark _))
          (pw_or (pt_cmpR op_ne (pe_ix (r := rIxT K) ix_tup (pe_ix (r := rIxT K) ix_tup (pv 0) (pe_op op_add (pv 1) pe_int) (fun _ _ => rfl)) pe_int (fun _ _ => rfl)) (pe_ix (r := rIxT K) ix_tup (pe_ix (r := rIxT K) ix_tup (pv 0) (pv 1) (fun _ _ => rfl)) pe_int (fun _ _ => rfl)) (nomark _))
          (pw_or1 (pt_cmpR op_gt (pe_ix (r := rIxT K) ix_tup (pe_ix (r := rIxT K) ix_tup (pv 0) (pe_op op_add (pv 1) pe_int) (fun _ _ => rfl)) pe_int (fun _ _ => rfl)) (pe_ix (r := rIxT K) ix_tup (pe_ix (r := rIxT K) ix_tup (pv 0) (pv 1) (fun _ _ => rfl)) pe_int (fun _ _ => rfl)) (nomark _)))))) (pss_one (ps_ret pe_non)) pss_nil)
      (pss_one (ps_ret (pe_ifExp (pt_cmpR op_le (pe_ix (r := rIxT K) ix_tup (pe_ix (r := rIxT K) ix_tup (pv 0) (pe_op op_add (pv 1) pe_int) (fun _ _ => rfl)) pe_int (fun _ _ => rfl)) (pe_ix (r := rIxT K) ix_tup (pe_ix (r := rIxT K) ix_tup (pv 0) (pe_op op_add (pv 1) pe_int) (fun _ _ => rfl)) pe_int (fun _ _ => rfl)) (nomark _)) pe_str pe_str))))), ?_⟩
    have lxs : xs.length = l.length := pl.length
    have hget : ∀ j c, (l.drop p)[j]? = some c → ∃ b, xs[p + j]? = some (.ref b) ∧ H b = some (.tup (clkV c)) := fun j c h => by
      rw [List.getElem?_drop] at h
      exact clks_got pl h
    have dl : (l.drop p).length = l.length - p := List.length_drop
    generalize l.drop p = d at q hget dl
    match d, q, hget, dl with
    | [], _, _, dl => rw [List.length_nil] at dl; omega
    | (k0, n0) :: r, q, hget, dl =>
      obtain ⟨b0, x0, h0⟩ := hget 0 (k0, n0) rfl
      rw [Nat.add_zero] at x0
      have hq0 : n0 = 0 → ruleL ((k0, n0) :: r) = some .nothing := fun z => by
        subst z
        match r with
        | [] => rfl
        | [(_, _)] => rfl
        | (_, _) :: (_, _) :: _ => rfl
      refine ⟨.ref a, rfl, .int (p : Nat), rfl, a, xs, _, .ref b0, rfl, rfl, sqT ha, atI_nat x0, b0, _, 1, .int (n0 : Nat), rfl, rfl, sqT h0, atI_nat (j := 1) rfl, rfl, _, rfl, ?_⟩
      by_cases z0 : n0 = 0
      · rw [hq0 z0] at q
        exact iteTq (by rw [z0]; rfl) q
      refine iteFq (decide_eq_false fun e => z0 (by have := V.int.inj e; omega)) ?_
      have ek : ∀ k1 k2 : Bool, decide (V.str (kn k1) = V.str (kn k2)) = decide (k1 = k2) := fun k1 k2 => by cases k1 <;> cases k2 <;> decide
      match r, q, hget, dl with
      | [], q, _, dl =>
        rw [List.length_cons, List.length_nil] at dl
        refine ⟨.int (p : Nat), rfl, _, 1, rfl, rfl, .ref a, rfl, .ref a, xs.length, rfl, .inr ⟨_, sqT ha, rfl⟩, _, _, rfl, rfl, _, rfl, iteFq (decide_eq_false (show ¬ ((p : Nat) : Int) + 1 < ((xs.length : Nat) : Int) by omega)) ?_⟩
        refine ⟨.int (p : Nat), rfl, _, 2, rfl, rfl, .ref a, rfl, .ref a, xs.length, rfl, .inr ⟨_, sqT ha, rfl⟩, _, _, rfl, rfl, _, rfl, iteTq (decide_eq_true (show ((xs.length : Nat) : Int) ≤ ((p : Nat) : Int) + 2 by omega)) ?_⟩
        rw [rl1, if_neg z0] at q
        exact q
      | (k1, n1) :: r2, q, hget, dl =>
        obtain ⟨b1, x1, h1⟩ := hget 1 (k1, n1) rfl
        rw [List.length_cons, List.length_cons] at dl
        refine ⟨.int (p : Nat), rfl, _, 1, rfl, rfl, .ref a, rfl, .ref a, xs.length, rfl, .inr ⟨_, sqT ha, rfl⟩, _, _, rfl, rfl, _, rfl, iteTq (decide_eq_true (show ((p : Nat) : Int) + 1 < ((xs.length : Nat) : Int) by omega)) ?_⟩
        refine ⟨.ref a, rfl, .int (p : Nat), rfl, _, 1, rfl, rfl, a, xs, _, .ref b1, rfl, rfl, sqT ha, atI_nat (j := p + 1) x1, b1, _, 0, .str (kn k1), rfl, rfl, sqT h1, atI_nat (j := 0) rfl, .ref a, rfl, .int (p : Nat), rfl, a, xs, _, .ref b0, rfl, rfl, sqT ha, atI_nat (j := p) x0, b0, _, 0, .str (kn k0), rfl, rfl, sqT h0, atI_nat (j := 0) rfl, rfl, _, rfl, ?_⟩
        by_cases z1 : k1 = k0
        · refine iteTq (by rw [ek]; exact decide_eq_true z1) ?_
          have e : ruleL ((k0, n0) :: (k1, n1) :: r2) = some .added := by
            cases r2 with
            | nil => rw [rl2, if_neg z0, if_pos z1]
            | cons c r3 => obtain ⟨k2, n2⟩ := c; rw [rl3, if_neg z0, if_pos z1]
          rw [e] at q
          exact q
        · refine iteFq (by rw [ek]; exact decide_eq_false z1) ?_
          match r2, q, hget, dl with
          | [], q, _, dl =>
            rw [List.length_nil] at dl
            refine ⟨.int (p : Nat), rfl, _, 2, rfl, rfl, .ref a, rfl, .ref a, xs.length, rfl, .inr ⟨_, sqT ha, rfl⟩, _, _, rfl, rfl, _, rfl, iteTq (decide_eq_true (show ((xs.length : Nat) : Int) ≤ ((p : Nat) : Int) + 2 by omega)) ?_⟩
            rw [rl2, if_neg z0, if_neg z1] at q
            exact q
          | (k2, n2) :: r3, q, hget, dl =>
            obtain ⟨b2, x2, h2⟩ := hget 2 (k2, n2) rfl
            rw [List.length_cons] at dl
            rw [rl3, if_neg z0, if_neg z1] at q
            refine ⟨.int (p : Nat), rfl, _, 2, rfl, rfl, .ref a, rfl, .ref a, xs.length, rfl, .inr ⟨_, sqT ha, rfl⟩, _, _, rfl, rfl, _, rfl, iteFq (decide_eq_false (show ¬ ((xs.length : Nat) : Int) ≤ ((p : Nat) : Int) + 2 by omega)) ?_⟩
            refine ⟨.ref a, rfl, .int (p : Nat), rfl, _, 2, rfl, rfl, a, xs, _, .ref b2, rfl, rfl, sqT ha, atI_nat (j := p + 2) x2, b2, _, 0, .str (kn k2), rfl, rfl, sqT h2, atI_nat (j := 0) rfl, .ref a, rfl, .int (p : Nat), rfl, a, xs, _, .ref b0, rfl, rfl, sqT ha, atI_nat (j := p) x0, b0, _, 0, .str (kn k0), rfl, rfl, sqT h0, atI_nat (j := 0) rfl, rfl, _, rfl, ?_⟩
            by_cases z2 : k2 = k0
            · refine iteFq (by rw [ek, decide_eq_true z2]; rfl) ?_
              refine ⟨.ref a, rfl, .int (p : Nat), rfl, _, 1, rfl, rfl, a, xs, _, .ref b1, rfl, rfl, sqT ha, atI_nat (j := p + 1) x1, b1, _, 1, .int (n1 : Nat), rfl, rfl, sqT h1, atI_nat (j := 1) rfl, .ref a, rfl, .int (p : Nat), rfl, a, xs, _, .ref b0, rfl, rfl, sqT ha, atI_nat (j := p) x0, b0, _, 1, .int (n0 : Nat), rfl, rfl, sqT h0, atI_nat (j := 1) rfl, _, _, rfl, rfl, _, rfl, ?_⟩
              by_cases z3 : n1 ≤ n0
              · rw [if_pos ⟨z2, z3⟩] at q
                refine iteFq (decide_eq_false (show ¬ ((n0 : Nat) : Int) < ((n1 : Nat) : Int) by omega)) ?_
                refine ⟨.ref a, rfl, .int (p : Nat), rfl, _, 1, rfl, rfl, a, xs, _, .ref b1, rfl, rfl, sqT ha, atI_nat (j := p + 1) x1, b1, _, 1, .int (n1 : Nat), rfl, rfl, sqT h1, atI_nat (j := 1) rfl, .ref a, rfl, .int (p : Nat), rfl, _, 2, rfl, rfl, a, xs, _, .ref b2, rfl, rfl, sqT ha, atI_nat (j := p + 2) x2, b2, _, 1, .int (n2 : Nat), rfl, rfl, sqT h2, atI_nat (j := 1) rfl, _, _, rfl, rfl, _, rfl, ?_⟩
                by_cases z4 : n1 ≤ n2
                · rw [if_pos z4] at q
                  exact iteTq (decide_eq_true (show ((n1 : Nat) : Int) ≤ ((n2 : Nat) : Int) by omega)) q
                · rw [if_neg z4] at q
                  exact iteFq (decide_eq_false (show ¬ ((n1 : Nat) : Int) ≤ ((n2 : Nat) : Int) by omega)) q
              · rw [if_neg (fun z => z3 z.2)] at q
                exact iteTq (decide_eq_true (show ((n0 : Nat) : Int) < ((n1 : Nat) : Int) by omega)) q
            · rw [if_neg (fun z => z2 z.1)] at q
              exact iteTq (by rw [ek, decide_eq_false z2]; rfl) q
end
end K7

set_option Elab.async false
set_option linter.all false
set_option maxRecDepth 100000
set_option maxHeartbeats 4000000
namespace K7
open PySem PySem.Spec PyProof.Rows L2 GX NdefX K24
/-! ### tuples made by a comprehension -/
def TupT (H : Hp) (x : V) (vs : List V) : Prop := ∃ a, x = .ref a ∧ H a = some (.tup vs)
theorem TupT.same {H H' : Hp} {x : V} {vs : List V} (s : Same H H') (h : TupT H x vs) : TupT H' x vs := by
  obtain ⟨a, e, q⟩ := h
  exact ⟨a, e, s _ _ q⟩
def TupsT (H : Hp) (ts : List V) (ls : List (List V)) : Prop := Paired (TupT H) ts ls
theorem TupsT.same {H H' : Hp} {ts : List V} {ls : List (List V)} (s : Same H H') (h : TupsT H ts ls) : TupsT H' ts ls := paired_imp (fun _ _ h => h.same s) h
theorem tups_upd {H : Hp} {D : Addr} {o : HO} {ts us : List V} {l : List (List V)} (eD : H D = some (.lst us)) (p : TupsT H ts l) : TupsT (upd H D o) ts l := paired_imp (fun x c ⟨a, e, h⟩ => ⟨a, e, by rw [upd_ne (fun z => by rw [z, eD] at h; cases h)]; exact h⟩) p
theorem tup_upd {H : Hp} {D : Addr} {o : HO} {x : V} {us c : List V} (eD : H D = some (.lst us)) (p : TupT H x c) : TupT (upd H D o) x c := by
  obtain ⟨a, e, h⟩ := p
  exact ⟨a, e, by rw [upd_ne (fun z => by rw [z, eD] at h; cases h)]; exact h⟩
theorem lcTupK {J : It} {n : Nat} {g : TG} {tt : TT} {te : TE} {vs : List Nat} {σ : L2.St} {H1 : Hp} {D : Addr} {Qd : Hp → Prop} (keep : Nat → Bool) (cs : Nat → List V) (nD : H1 D = none) (hn : n ≤ 4000) (go : ∀ i H, i < n → Same H1 H → J.go i H) (stop : ∀ H, Same H1 H → J.stop n H)
    (turn : ∀ i x H H' (Qk : VK) (Qn : Hp → Prop), i < n → Same H1 H → J.yld i H x H' → (∀ y H4, keep i = true → TupT H4 y (cs i) → Same H H4 → Qk y H4) → (∀ H4, keep i = false → Same H H4 → Qn H4) → g x (wipe σ vs) H' fun σ2 H2 => wipe σ2 vs = wipe σ vs ∧ tt σ2 H2 fun b H3 => if b = true then te σ2 H3 Qk else Qn H3)
    (done : ∀ H ts, Same H1 H → H D = some (.lst ts) → TupsT H ts (((List.range n).filter keep).map cs) → Qd H) :
    ∃ W : Nat → Nat → Hp → Prop, (∃ m, W 0 m (upd H1 D (.lst []))) ∧ ∀ i m H, W i m H →
      (J.stop i H ∧ Qd H) ∨ (J.go i H ∧ ∃ Nx : Hp → Prop, (∀ H', Nx H' → ∃ m', m' < m ∧ W (i + 1) m' H') ∧ ∀ x H', J.yld i H x H' → g x (wipe σ vs) H' fun σ2 H2 => wipe σ2 vs = wipe σ vs ∧ tt σ2 H2 fun b H3 =>
        if b = true then te σ2 H3 fun y H4 => ∃ acc, H4 D = some (.lst acc) ∧ acc.length < sizeLine ∧ Nx (upd H4 D (.lst (acc ++ [y]))) else Nx H3) := by
  refine ⟨fun i m H => m = n - i ∧ i ≤ n ∧ Same H1 H ∧ ∃ ts, H D = some (.lst ts) ∧ TupsT H ts (((List.range i).filter keep).map cs), ⟨n, rfl, Nat.zero_le _, same_upd nD, [], upd_same, .nil⟩, ?_⟩
  rintro i m H ⟨rfl, hi, sm, ts, eD, pt⟩
  by_cases hlt : i < n
  · refine .inr ⟨go i H hlt sm, fun H' => Same H1 H' ∧ ∃ ts, H' D = some (.lst ts) ∧ TupsT H' ts (((List.range (i + 1)).filter keep).map cs), fun H' p => ⟨n - (i + 1), by omega, rfl, hlt, p.1, p.2⟩, fun x H' y => ?_⟩
    refine turn i x H H' _ _ hlt sm y (fun y H4 hk eT s4 => ⟨ts, s4 _ _ eD, ?_, fun b o e => ?_, _, upd_same, ?_⟩) (fun H4 hk s4 => ⟨sm.trans s4, ts, s4 _ _ eD, ?_⟩)
    · have h1 := pt.length
      have h2 := List.length_filter_le keep (List.range i)
      rw [List.length_map] at h1
      rw [List.length_range] at h2
      rw [sizeLine_eq]
      omega
    · rw [upd_ne (ne_of_none e nD)]
      exact s4 _ _ (sm _ _ e)
    · rw [List.range_succ, List.filter_append, List.filter_cons_of_pos hk, List.map_append]
      exact paired_snoc (tups_upd (s4 _ _ eD) (pt.same s4)) (tup_upd (s4 _ _ eD) eT)
    · rw [List.range_succ, List.filter_append, List.filter_cons_of_neg (by rw [hk]; exact Bool.false_ne_true), List.filter_nil, List.append_nil]
      exact pt.same s4
  · have e : i = n := by omega
    subst e
    exact .inl ⟨stop H sm, done H ts sm eD pt⟩
theorem tups_got {H : Hp} {ts : List V} {ls : List (List V)} (p : TupsT H ts ls) {i : Nat} {x : V} (h : ts[i]? = some x) : ∃ vs a, ls[i]? = some vs ∧ x = .ref a ∧ H a = some (.tup vs) := by
  obtain ⟨vs, hv, a, e, ha⟩ := paired_get p h
  exact ⟨vs, a, hv, e, ha⟩
/-! ### _rules -/
def placesL (l : List Clk) : List Nat := (List.range l.length).filter fun p => (ruleL (l.drop p)).isSome
def rlV (l : List Clk) (p : Nat) : List V := [.int (p : Nat), ruV (ruleL (l.drop p))]
def spRules0 : Sp := fun vs H Q _ => ∃ (a : Addr) (l : List Clk), vs = [.ref a] ∧ RowT H a l ∧ l.length ≤ 100 ∧ ∀ D H' ts, Same H H' → H D = none → H' D = some (.lst ts) → TupsT H' ts ((placesL l).map (rlV l)) → Q (.ref D) H'
section
variable {P : Program} {w : World} {K : PySem.W.Frag} {mg : Str → Option Value} {base : Heap}
theorem ok_rules0 {f fA : Addr} {fd fdA : FuncData} {k : Nat} (F : Fun K "_rules" "_rules" sRules0 f fd) (B : Bl mg) (FA : Fun K "_rule_at" "_rule_at" sRuleAt fA fdA) (bA : Binds K fdA ["row", "place"] []) (gA : mg "_rule_at" = some (.ref fA)) : FnOk P w K mg base CX0 (k + 2) f fd ["row"] spRules0 := by
  have GA : FnOk P w K mg base CX0 (k + 1) fA fdA ["row", "place"] spRuleAt := ok_ruleAt FA B
  refine F.ok scRules0 (fun vs H Q E h => ?_) (fun cdv A outer s H vs Q E hr h => ?_)
  · obtain ⟨a, l, rfl, _⟩ := h
    rfl
  · obtain ⟨a, l, rfl, hrow, hl, q⟩ := h
    refine ⟨_, pss_cons (ps_setLc (i := 1) (own := [("place", 2)]) (g := gName 2) (tt := tYes) rfl scRules0.nd rfl rfl (sw_true rfl rfl rfl (by decide +kernel)) (pi_range1 (by rfl) B.range (pa_cons (pe_callB call_len (by rfl) B.len PySem.boot_len (pa_cons (pv 0) pa_nil)) pa_nil)) (blkOk_by (own := [("place", 2)]) (N := ["row", "told", "place", "rule"]) (sc := defScope sRules0) (by decide +kernel)) (fun _ _ _ _ _ => pg_name (i := 2) scRules0.nd rfl (Or.inl rfl))
        (fun _ _ _ _ _ => pts_nil) (fun _ _ _ _ _ => pe_tup (pa_cons (pv 2) (pa_cons (pe_call GA hr (by rfl) gA FA.kp bA .nil pass0 (pa_cons (pv 0) (pa_cons (pv 2) pa_nil))) pa_nil))))
      (pss_one (ps_ret (pe_lc (own := [("place", 2), ("rule", 3)]) (g := gTup K 2 (gCons (gName 2) (gCons (gName 3) gNil))) (tt := tTest (tOp (fun x y H Q => y = .non ∧ Q (.bl (!decide (x = .non))) H) (tVar 3) (tC .non))) rfl scRules0.nd (pi_list (pv 1)) (blkOk_by (own := [("place", 2), ("rule", 3)]) (N := ["row", "told", "place", "rule"]) (sc := defScope sRules0) (by decide +kernel)) (fun _ _ _ _ _ => pg_tup rfl (pgs_cons (pg_name (i := 2) scRules0.nd rfl (Or.inl rfl)) (pgs_cons (pg_name (i := 3) scRules0.nd rfl (Or.inl rfl)) pgs_nil)))
        (fun _ _ _ _ _ => pts_one (pt_cmpR op_notN (pv 3) pe_non (nomark _))) (fun _ _ _ _ _ => pe_tup (pa_cons (pv 2) (pa_cons (pv 3) pa_nil)))))), ?_⟩
    have len : ∀ H', Same H H' → LenV K (.ref a) H' l.length := fun H' s => by
      obtain ⟨xs, e, p⟩ := hrow.same s
      exact .inr ⟨_, sqT e, p.length.symm⟩
    refine ⟨.ref a, rfl, .ref a, l.length, rfl, len H (Same.refl _), (l.length : Nat), rfl, by omega, by omega, fun D nD => ?_⟩
    refine lcTupK (n := l.length) (fun _ => true) (rlV l) nD (by omega) (fun i H2 h s => by show i < ((l.length : Nat) : Int).toNat; omega) (fun H2 s => by show ((l.length : Nat) : Int).toNat ≤ l.length; omega) (fun i x H2 H' Qk Qn hi s2 y hT hF => ?_) (fun H2 ts s2 e2 pt => ?_)
    · obtain ⟨rfl, rfl⟩ := y
      rw [show (0 : Int) + (i : Int) = ((i : Nat) : Int) by omega]
      refine ⟨rfl, ?_⟩
      delta tYes
      refine iteT ⟨.int (i : Nat), rfl, .ref a, rfl, .int (i : Nat), rfl, a, i, l, rfl, hrow.same s2, hi, hl, by show 2 ≤ sizeLine; decide, fun T nT => ?_⟩
      exact hT _ _ rfl ⟨T, rfl, upd_same⟩ (same_upd nT)
    · rw [List.filter_eq_self.mpr (fun _ _ => rfl)] at pt
      have lts : ts.length = l.length := by rw [pt.length, List.length_map, List.length_range]
      refine ⟨.ref D, rfl, D, rfl, ⟨ts, sqL e2⟩, fun E1 nE => ?_⟩
      refine lcTupK (n := ts.length) (fun i => (ruleL (l.drop i)).isSome) (rlV l) nE (by omega) (fun i H3 h s3 => ⟨ts, ts[i], sqL (s3 _ _ e2), List.getElem?_eq_getElem h⟩) (fun H3 s3 => ⟨ts, sqL (s3 _ _ e2), Nat.le_refl _⟩) (fun i x H3 H' Qk Qn hi s3 y hT hF => ?_) (fun H3 us s3 e3 pu => ?_)
      · obtain ⟨rfl, hx⟩ := y
        have hx := hx ts (sqL (s3 _ _ e2))
        obtain ⟨vs, b, hv, rfl, hb⟩ := tups_got (pt.same s3) hx
        rw [List.getElem?_map, List.getElem?_range (by omega)] at hv
        cases hv
        refine ⟨b, _, rfl, sqT hb, rfl, .int (i : Nat), _, rfl, ruV (ruleL (l.drop i)), _, rfl, rfl, rfl, ?_⟩
        refine ⟨_, rfl, rfl, _, rfl, ?_⟩
        cases hr : ruleL (l.drop i) with
        | none => exact iteFq rfl (hF _ (by rw [hr]; rfl) (Same.refl _))
        | some r =>
          refine iteTq rfl ⟨.int (i : Nat), rfl, .str (ruN r), rfl, by show 2 ≤ sizeLine; decide, fun T nT => ?_⟩
          refine hT _ _ (by rw [hr]; rfl) ⟨T, rfl, ?_⟩ (same_upd nT)
          rw [upd_same]
          unfold rlV
          rw [hr]
          rfl
      · rw [lts] at pu
        exact q E1 H3 us (s2.trans s3) (none_of_same s2 nE) e3 pu
end
end K7

set_option Elab.async false
set_option linter.all false
set_option maxRecDepth 100000
set_option maxHeartbeats 4000000
namespace K7
open PySem PySem.Spec PyProof.Rows L2 GX NdefX K24
/-! ### parts of tuples, and tuples one behind the other -/
theorem cut_to (xs : List V) (m : Nat) : cutV xs none (some (m : Int)) = xs.take m := by
  unfold cutV
  rw [HT.sIx_nat, show HT.sIx xs.length 0 none = 0 from rfl, Nat.sub_zero, List.drop_zero]
  by_cases h : m ≤ xs.length
  · rw [Nat.min_eq_left h]
  · rw [Nat.min_eq_right (by omega), List.take_of_length_le (Nat.le_refl _), List.take_of_length_le (by omega)]
theorem cut_from (xs : List V) (m : Nat) : cutV xs (some (m : Int)) none = xs.drop m := by
  unfold cutV
  rw [HT.sIx_nat, show HT.sIx xs.length xs.length none = xs.length from rfl]
  by_cases h : m ≤ xs.length
  · rw [Nat.min_eq_left h, List.take_of_length_le (by rw [List.length_drop]; exact Nat.le_refl _)]
  · rw [Nat.min_eq_right (by omega), List.drop_eq_nil_of_le (Nat.le_refl _), List.drop_eq_nil_of_le (show xs.length ≤ m by omega), List.take_nil]
theorem slA {K : PySem.W.Frag} {H : Hp} {a : Addr} {xs : List V} {lo hi : Option Int} {Q : VK} (h : H a = some (.tup xs)) (q : ∀ p H', Same H H' → H' p = some (.tup (cutV xs lo hi)) → Q (.ref p) H') : rSlA K (.ref a) lo hi H Q := by
  refine ⟨a, xs, rfl, sqT h, fun z => q a H (Same.refl _) ?_, fun _ p np => q p _ (same_upd np) upd_same⟩
  rw [h]
  unfold cutV
  rw [z.1, z.2, List.drop_zero, Nat.sub_zero, List.take_of_length_le (Nat.le_refl _)]
theorem catA {K : PySem.W.Frag} {H : Hp} {a b : Addr} {xs ys : List V} {Q : VK} (ha : H a = some (.tup xs)) (hb : H b = some (.tup ys)) (hl : xs.length + ys.length ≤ 1000) (q : ∀ p H', Same H H' → H' p = some (.tup (xs ++ ys)) → Q (.ref p) H') : rCatA K (.ref a) (.ref b) H Q := by
  refine ⟨a, b, xs, ys, rfl, rfl, sqT ha, sqT hb, by rw [sizeLine_eq]; omega, fun z => q b H (Same.refl _) ?_, fun _ z => q a H (Same.refl _) ?_, fun _ _ p np => q p _ (same_upd np) upd_same⟩
  · rw [hb, z, List.nil_append]
  · rw [ha, z, List.append_nil]
theorem paired_take {α β : Type} {F : α → β → Prop} {xs : List α} {ys : List β} (p : Paired F xs ys) : ∀ k, Paired F (xs.take k) (ys.take k) ∧ Paired F (xs.drop k) (ys.drop k) := by
  induction p with
  | nil => intro k; rw [List.take_nil, List.take_nil, List.drop_nil, List.drop_nil]; exact ⟨.nil, .nil⟩
  | cons f r ih =>
    intro k
    cases k with
    | zero => exact ⟨.nil, .cons f r⟩
    | succ k => exact ⟨.cons f (ih k).1, (ih k).2⟩
theorem paired_app {α β : Type} {F : α → β → Prop} {xs xs' : List α} {ys ys' : List β} (p : Paired F xs ys) (q : Paired F xs' ys') : Paired F (xs ++ xs') (ys ++ ys') := by
  induction p with
  | nil => exact q
  | cons f _ ih => exact .cons f ih
def spUsed : Sp := fun vs H Q _ => ∃ (a : Addr) (d p : Nat) (r : Ru) (l : List Clk), vs = [.ref a, .int (d : Nat), .int (p : Nat), .str (ruN r)] ∧ RowT H a l ∧ l.length ≤ 100 ∧ ruleL (l.drop p) = some r ∧
  ∀ T H' b, Same H H' → H T = none → H' T = some (.tup [.ref b, .int ((useAt r l d p).2 : Nat)]) → RowT H' b (useAt r l d p).1 → Q (.ref T) H'
section
variable {P : Program} {w : World} {K : PySem.W.Frag} {mg : Str → Option Value} {base : Heap}
theorem ok_used {f : Addr} {fd : FuncData} {k : Nat} (F : Fun K "_used" "_used" sUsed f fd) (B : Bl mg) : FnOk P w K mg base CX0 (k + 1) f fd ["row", "delay", "place", "rule"] spUsed := by
  refine F.ok scUsed (fun vs H Q E h => ?_) (fun cdv A outer s H vs Q E hr h => ?_)
  · obtain ⟨a, d, p, r, l, rfl, _⟩ := h
    rfl
  · obtain ⟨a, d, p, r, l, rfl, ⟨xs, ha, pl⟩, hl, hrule, q⟩ := h
    refine ⟨_, pss_cons (ps_if (pt_cmpR op_eq (pv 3) pe_str (nomark _)) (pss_one (ps_ret (pe_tup (pa_cons (pe_op op_catA (pe_slice sl_tupA (pv 0) po_none (po_some (pv 2))) (pe_slice sl_tupA (pv 0) (po_some (pe_op op_add (pv 2) pe_int)) po_none)) (pa_cons (pv 1) pa_nil))))) pss_nil)
      (pss_cons (ps_asg (pe_ix (r := rIxT K) ix_tup (pv 0) (pv 2) (fun _ _ => rfl)) (pg_tup rfl (pgs_cons (pg_name (i := 4) scUsed.nd rfl (Or.inl rfl)) (pgs_cons (pg_name (i := 5) scUsed.nd rfl (Or.inl rfl)) pgs_nil))))
      (pss_cons (ps_asg (pe_ix (r := rIxT K) ix_tup (pv 0) (pe_op op_add (pv 2) pe_int) (fun _ _ => rfl)) (pg_tup rfl (pgs_cons (pg_name (i := 6) scUsed.nd rfl (Or.inl rfl)) (pgs_cons (pg_name (i := 7) scUsed.nd rfl (Or.inl rfl)) pgs_nil))))
      (pss_cons (ps_if (pt_cmpR op_eq (pv 3) pe_str (nomark _)) (pss_one (ps_ret (pe_tup (pa_cons (pe_op op_catA (pe_op op_catA (pe_slice sl_tupA (pv 0) po_none (po_some (pv 2))) (pe_tup (pa_cons (pe_tup (pa_cons (pv 4) (pa_cons (pe_op op_add (pv 5) (pv 7)) pa_nil))) pa_nil))) (pe_slice sl_tupA (pv 0) (po_some (pe_op op_add (pv 2) pe_int)) po_none)) (pa_cons (pv 1) pa_nil))))) pss_nil)
      (pss_cons (ps_set (i := 8) scUsed.nd rfl (.inl rfl) (pe_ix (r := rIxT K) ix_tup (pe_ix (r := rIxT K) ix_tup (pv 0) (pe_op op_add (pv 2) pe_int) (fun _ _ => rfl)) pe_int (fun _ _ => rfl)))
      (pss_cons (ps_if (pt_cmpR op_eq (pv 3) pe_str (nomark _)) (pss_one (ps_ret (pe_tup (pa_cons (pe_op op_catA (pe_op op_catA (pe_slice sl_tupA (pv 0) po_none (po_some (pv 2))) (pe_tup (pa_cons (pe_tup (pa_cons (pv 4) (pa_cons (pe_op op_sub (pe_op op_add (pv 5) (pv 8)) (pv 7)) pa_nil))) pa_nil))) (pe_slice sl_tupA (pv 0) (po_some (pe_op op_add (pv 2) pe_int)) po_none)) (pa_cons (pe_op op_add (pv 1) (pv 7)) pa_nil))))) pss_nil)
      (pss_one (ps_ret (pe_tup (pa_cons (pe_op op_catA (pe_op op_catA (pe_slice sl_tupA (pv 0) po_none (po_some (pe_op op_add (pv 2) pe_int))) (pe_tup (pa_cons (pe_tup (pa_cons (pv 6) (pa_cons (pe_op op_sub (pv 7) (pv 8)) pa_nil))) pa_nil))) (pe_slice sl_tupA (pv 0) (po_some (pe_op op_add (pv 2) pe_int)) po_none)) (pa_cons (pe_op op_add (pv 1) (pv 8)) pa_nil)))))))))), ?_⟩
    have lxs : xs.length = l.length := pl.length
    have hget : ∀ j c, (l.drop p)[j]? = some c → ∃ b, xs[p + j]? = some (.ref b) ∧ H b = some (.tup (clkV c)) := fun j c h => by
      rw [List.getElem?_drop] at h
      exact clks_got pl h
    have hdr : ∀ j, l.drop (p + j) = (l.drop p).drop j := fun j => by rw [List.drop_drop]
    rcases rule_form hrule with ⟨k, l', hd, rfl⟩ | ⟨k, n0, n1, l', hd, rfl, _⟩ | ⟨k, n0, n1, n2, l', hd, rfl, c1, c2, _⟩ | ⟨k, n0, n1, n2, l', hd, rfl, c1, c2, _⟩
    · refine ⟨.str "nothing", rfl, rfl, _, rfl, iteTq (by decide) ?_⟩
      refine ⟨.ref a, rfl, .int (p : Nat), rfl, ((p : Nat) : Int), rfl, slA ha fun S1 H1 s1 e1 => ?_⟩
      rw [cut_to] at e1
      refine ⟨.ref a, rfl, .int (p : Nat), rfl, _, 1, rfl, rfl, _, rfl, ?_⟩
      delta tNoPart
      refine slA (s1 _ _ ha) fun S2 H2 s2 e2 => ?_
      rw [show ((p : Nat) : Int) + 1 = ((p + 1 : Nat) : Int) from rfl, cut_from] at e2
      refine catA (s2 _ _ e1) e2 (by rw [List.length_take, List.length_drop]; omega) fun S4 H4 s4 e4 => ?_
      have s04 := s1.trans (s2.trans s4)
      refine ⟨.int (d : Nat), rfl, by show 2 ≤ sizeLine; decide, fun T nT => ?_⟩
      have sT := same_upd nT (o := .tup [.ref S4, .int (d : Nat)])
      have pk := ClksT.same (s04.trans sT) pl
      refine q T _ S4 (s04.trans sT) (none_of_same s04 nT) (by rw [upd_same]; unfold useAt; rw [hd]; rfl) ⟨_, sT _ _ e4, ?_⟩
      show ClksT _ (xs.take p ++ xs.drop (p + 1)) (l.take p ++ (useL .nothing (l.drop p)).1)
      have e5 : (useL .nothing (l.drop p)).1 = l.drop (p + 1) := by
        rw [hdr 1, hd]
        rfl
      rw [e5]
      exact paired_app (paired_take pk _).1 (paired_take pk _).2
    · obtain ⟨b0, x0, h0⟩ := hget 0 (k, n0) (by rw [hd]; rfl)
      rw [Nat.add_zero] at x0
      obtain ⟨b1, x1, h1⟩ := hget 1 (k, n1) (by rw [hd]; rfl)
      have hp2 : p + 1 < l.length := by
        have := congrArg List.length hd
        rw [List.length_drop, List.length_cons, List.length_cons] at this
        omega
      refine ⟨.str "added", rfl, rfl, _, rfl, iteFq (by decide) ?_⟩
      refine ⟨.ref a, rfl, .int (p : Nat), rfl, a, xs, _, .ref b0, rfl, rfl, sqT ha, atI_nat x0, b0, _, rfl, sqT h0, rfl, .str (kn k), _, rfl, .int (n0 : Nat), _, rfl, rfl, ?_⟩
      refine ⟨.ref a, rfl, .int (p : Nat), rfl, _, 1, rfl, rfl, a, xs, _, .ref b1, rfl, rfl, sqT ha, atI_nat (j := p + 1) x1, b1, _, rfl, sqT h1, rfl, .str (kn k), _, rfl, .int (n1 : Nat), _, rfl, rfl, ?_⟩
      refine ⟨.str "added", rfl, rfl, _, rfl, iteTq (by decide) ?_⟩
      refine ⟨.ref a, rfl, .int (p : Nat), rfl, ((p : Nat) : Int), rfl, slA ha fun S1 H1 s1 e1 => ?_⟩
      rw [cut_to] at e1
      refine ⟨.str (kn k), rfl, .int (n0 : Nat), rfl, .int (n1 : Nat), rfl, _, _, rfl, rfl, by show 2 ≤ sizeLine; decide, fun R nR => ⟨by show 1 ≤ sizeLine; decide, fun B nB => ?_⟩⟩
      have sR := same_upd nR (o := .tup [.str (kn k), .int ((n0 : Nat) + (n1 : Nat))])
      have sB := same_upd nB (o := .tup [.ref R])
      refine catA ((sR.trans sB) _ _ e1) upd_same (by rw [List.length_take]; show min _ _ + 1 ≤ 1000; omega) fun S2 H2 s2 e2 => ?_
      have s02 := s1.trans (sR.trans (sB.trans s2))
      refine ⟨.ref a, rfl, .int (p : Nat), rfl, _, 2, rfl, rfl, _, rfl, ?_⟩
      delta tNoPart
      refine slA (s02 _ _ ha) fun S3 H3 s3 e3 => ?_
      rw [show ((p : Nat) : Int) + 2 = ((p + 2 : Nat) : Int) from rfl, cut_from] at e3
      refine catA (s3 _ _ e2) e3 (by rw [List.length_append, List.length_take, List.length_drop]; show min _ _ + 1 + (_ - _) ≤ 1000; omega) fun S4 H4 s4 e4 => ?_
      have s04 := s02.trans (s3.trans s4)
      refine ⟨.int (d : Nat), rfl, by show 2 ≤ sizeLine; decide, fun T nT => ?_⟩
      have hde : (useAt .added l d p).2 = d := by
        unfold useAt
        rw [hd]
        rfl
      have sT := same_upd nT (o := .tup [.ref S4, .int ((d : Nat))])
      have hR : H4 R = some (.tup [.str (kn k), .int ((n0 : Nat) + (n1 : Nat))]) := s4 _ _ (s3 _ _ (s2 _ _ (sB _ _ upd_same)))
      refine q T _ S4 (s04.trans sT) (none_of_same s04 nT) (by rw [upd_same, hde] <;> rfl) ⟨_, sT _ _ e4, ?_⟩
      show ClksT _ ((xs.take (p) ++ [.ref R]) ++ xs.drop (p + 2)) (l.take p ++ (useL .added (l.drop p)).1)
      have e5 : l.take p ++ (useL .added (l.drop p)).1 = (l.take (p) ++ [(k, n0 + n1)]) ++ l.drop (p + 2) := by
        rw [hdr 2, hd]
        simp [useL]
      rw [e5]
      have pk := ClksT.same (s04.trans sT) pl
      refine paired_app (paired_app (paired_take pk _).1 (.cons ⟨R, rfl, ?_⟩ .nil)) (paired_take pk _).2
      rw [sT _ _ hR]
      rfl
    · obtain ⟨b0, x0, h0⟩ := hget 0 (k, n0) (by rw [hd]; rfl)
      rw [Nat.add_zero] at x0
      obtain ⟨b1, x1, h1⟩ := hget 1 (!k, n1) (by rw [hd]; rfl)
      obtain ⟨b2, x2, h2⟩ := hget 2 (k, n2) (by rw [hd]; rfl)
      have hp2 : p + 2 < l.length := by
        have := congrArg List.length hd
        rw [List.length_drop, List.length_cons, List.length_cons, List.length_cons] at this
        omega
      refine ⟨.str "swing", rfl, rfl, _, rfl, iteFq (by decide) ?_⟩
      refine ⟨.ref a, rfl, .int (p : Nat), rfl, a, xs, _, .ref b0, rfl, rfl, sqT ha, atI_nat x0, b0, _, rfl, sqT h0, rfl, .str (kn k), _, rfl, .int (n0 : Nat), _, rfl, rfl, ?_⟩
      refine ⟨.ref a, rfl, .int (p : Nat), rfl, _, 1, rfl, rfl, a, xs, _, .ref b1, rfl, rfl, sqT ha, atI_nat (j := p + 1) x1, b1, _, rfl, sqT h1, rfl, .str (kn (!k)), _, rfl, .int (n1 : Nat), _, rfl, rfl, ?_⟩
      refine ⟨.str "swing", rfl, rfl, _, rfl, iteFq (by decide) ?_⟩
      refine ⟨.ref a, rfl, .int (p : Nat), rfl, _, 2, rfl, rfl, a, xs, _, .ref b2, rfl, rfl, sqT ha, atI_nat (j := p + 2) x2, b2, _, 1, .int (n2 : Nat), rfl, rfl, sqT h2, atI_nat (j := 1) rfl, ?_⟩
      refine ⟨.str "swing", rfl, rfl, _, rfl, iteTq (by decide) ?_⟩
      refine ⟨.ref a, rfl, .int (p : Nat), rfl, ((p : Nat) : Int), rfl, slA ha fun S1 H1 s1 e1 => ?_⟩
      rw [cut_to] at e1
      refine ⟨.str (kn k), rfl, .int (n0 : Nat), rfl, .int (n2 : Nat), rfl, _, _, rfl, rfl, .int (n1 : Nat), rfl, _, _, rfl, rfl, by show 2 ≤ sizeLine; decide, fun R nR => ⟨by show 1 ≤ sizeLine; decide, fun B nB => ?_⟩⟩
      have sR := same_upd nR (o := .tup [.str (kn k), .int ((n0 : Nat) + (n2 : Nat) - (n1 : Nat))])
      have sB := same_upd nB (o := .tup [.ref R])
      refine catA ((sR.trans sB) _ _ e1) upd_same (by rw [List.length_take]; show min _ _ + 1 ≤ 1000; omega) fun S2 H2 s2 e2 => ?_
      have s02 := s1.trans (sR.trans (sB.trans s2))
      refine ⟨.ref a, rfl, .int (p : Nat), rfl, _, 3, rfl, rfl, _, rfl, ?_⟩
      delta tNoPart
      refine slA (s02 _ _ ha) fun S3 H3 s3 e3 => ?_
      rw [show ((p : Nat) : Int) + 3 = ((p + 3 : Nat) : Int) from rfl, cut_from] at e3
      refine catA (s3 _ _ e2) e3 (by rw [List.length_append, List.length_take, List.length_drop]; show min _ _ + 1 + (_ - _) ≤ 1000; omega) fun S4 H4 s4 e4 => ?_
      have s04 := s02.trans (s3.trans s4)
      refine ⟨.int (d : Nat), rfl, .int (n1 : Nat), rfl, _, _, rfl, rfl, by show 2 ≤ sizeLine; decide, fun T nT => ?_⟩
      have hde : (useAt .swing l d p).2 = d + n1 := by
        unfold useAt
        rw [hd]
        rfl
      have sT := same_upd nT (o := .tup [.ref S4, .int (((d : Nat) : Int) + ((n1 : Nat) : Int))])
      have hR : H4 R = some (.tup [.str (kn k), .int ((n0 : Nat) + (n2 : Nat) - (n1 : Nat))]) := s4 _ _ (s3 _ _ (s2 _ _ (sB _ _ upd_same)))
      refine q T _ S4 (s04.trans sT) (none_of_same s04 nT) (by rw [upd_same, hde] <;> rfl) ⟨_, sT _ _ e4, ?_⟩
      show ClksT _ ((xs.take (p) ++ [.ref R]) ++ xs.drop (p + 3)) (l.take p ++ (useL .swing (l.drop p)).1)
      have e5 : l.take p ++ (useL .swing (l.drop p)).1 = (l.take (p) ++ [(k, n0 + n2 - n1)]) ++ l.drop (p + 3) := by
        rw [hdr 3, hd]
        simp [useL]
      rw [e5]
      have pk := ClksT.same (s04.trans sT) pl
      refine paired_app (paired_app (paired_take pk _).1 (.cons ⟨R, rfl, ?_⟩ .nil)) (paired_take pk _).2
      rw [sT _ _ hR]
      refine congrArg (fun z => some (HO.tup [V.str (kn k), V.int z])) ?_
      omega
    · obtain ⟨b0, x0, h0⟩ := hget 0 (k, n0) (by rw [hd]; rfl)
      rw [Nat.add_zero] at x0
      obtain ⟨b1, x1, h1⟩ := hget 1 (!k, n1) (by rw [hd]; rfl)
      obtain ⟨b2, x2, h2⟩ := hget 2 (k, n2) (by rw [hd]; rfl)
      have hp2 : p + 2 < l.length := by
        have := congrArg List.length hd
        rw [List.length_drop, List.length_cons, List.length_cons, List.length_cons] at this
        omega
      have htk : l.take (p + 1) = l.take p ++ [(k, n0)] := by
        refine take_get ?_
        have := List.getElem?_drop (xs := l) (i := p) (j := 0)
        rw [hd, Nat.add_zero] at this
        exact this.symm
      refine ⟨.str "tail", rfl, rfl, _, rfl, iteFq (by decide) ?_⟩
      refine ⟨.ref a, rfl, .int (p : Nat), rfl, a, xs, _, .ref b0, rfl, rfl, sqT ha, atI_nat x0, b0, _, rfl, sqT h0, rfl, .str (kn k), _, rfl, .int (n0 : Nat), _, rfl, rfl, ?_⟩
      refine ⟨.ref a, rfl, .int (p : Nat), rfl, _, 1, rfl, rfl, a, xs, _, .ref b1, rfl, rfl, sqT ha, atI_nat (j := p + 1) x1, b1, _, rfl, sqT h1, rfl, .str (kn (!k)), _, rfl, .int (n1 : Nat), _, rfl, rfl, ?_⟩
      refine ⟨.str "tail", rfl, rfl, _, rfl, iteFq (by decide) ?_⟩
      refine ⟨.ref a, rfl, .int (p : Nat), rfl, _, 2, rfl, rfl, a, xs, _, .ref b2, rfl, rfl, sqT ha, atI_nat (j := p + 2) x2, b2, _, 1, .int (n2 : Nat), rfl, rfl, sqT h2, atI_nat (j := 1) rfl, ?_⟩
      refine ⟨.str "tail", rfl, rfl, _, rfl, iteFq (by decide) ?_⟩
      refine ⟨.ref a, rfl, .int (p : Nat), rfl, _, 1, rfl, rfl, _, rfl, slA ha fun S1 H1 s1 e1 => ?_⟩
      rw [show ((p : Nat) : Int) + 1 = ((p + 1 : Nat) : Int) from rfl, cut_to] at e1
      refine ⟨.str (kn (!k)), rfl, .int (n1 : Nat), rfl, .int (n2 : Nat), rfl, _, _, rfl, rfl, by show 2 ≤ sizeLine; decide, fun R nR => ⟨by show 1 ≤ sizeLine; decide, fun B nB => ?_⟩⟩
      have sR := same_upd nR (o := .tup [.str (kn (!k)), .int ((n1 : Nat) - (n2 : Nat))])
      have sB := same_upd nB (o := .tup [.ref R])
      refine catA ((sR.trans sB) _ _ e1) upd_same (by rw [List.length_take]; show min _ _ + 1 ≤ 1000; omega) fun S2 H2 s2 e2 => ?_
      have s02 := s1.trans (sR.trans (sB.trans s2))
      refine ⟨.ref a, rfl, .int (p : Nat), rfl, _, 3, rfl, rfl, _, rfl, ?_⟩
      delta tNoPart
      refine slA (s02 _ _ ha) fun S3 H3 s3 e3 => ?_
      rw [show ((p : Nat) : Int) + 3 = ((p + 3 : Nat) : Int) from rfl, cut_from] at e3
      refine catA (s3 _ _ e2) e3 (by rw [List.length_append, List.length_take, List.length_drop]; show min _ _ + 1 + (_ - _) ≤ 1000; omega) fun S4 H4 s4 e4 => ?_
      have s04 := s02.trans (s3.trans s4)
      refine ⟨.int (d : Nat), rfl, .int (n2 : Nat), rfl, _, _, rfl, rfl, by show 2 ≤ sizeLine; decide, fun T nT => ?_⟩
      have hde : (useAt .tail l d p).2 = d + n2 := by
        unfold useAt
        rw [hd]
        rfl
      have sT := same_upd nT (o := .tup [.ref S4, .int (((d : Nat) : Int) + ((n2 : Nat) : Int))])
      have hR : H4 R = some (.tup [.str (kn (!k)), .int ((n1 : Nat) - (n2 : Nat))]) := s4 _ _ (s3 _ _ (s2 _ _ (sB _ _ upd_same)))
      refine q T _ S4 (s04.trans sT) (none_of_same s04 nT) (by rw [upd_same, hde] <;> rfl) ⟨_, sT _ _ e4, ?_⟩
      show ClksT _ ((xs.take (p + 1) ++ [.ref R]) ++ xs.drop (p + 3)) (l.take p ++ (useL .tail (l.drop p)).1)
      have e5 : l.take p ++ (useL .tail (l.drop p)).1 = (l.take (p + 1) ++ [(!k, n1 - n2)]) ++ l.drop (p + 3) := by
        rw [hdr 3, hd, htk]
        simp [useL]
      rw [e5]
      have pk := ClksT.same (s04.trans sT) pl
      refine paired_app (paired_app (paired_take pk _).1 (.cons ⟨R, rfl, ?_⟩ .nil)) (paired_take pk _).2
      rw [sT _ _ hR]
      refine congrArg (fun z => some (HO.tup [V.str (kn (!k)), V.int z])) ?_
      omega
end
end K7

set_option Elab.async false
set_option linter.all false
set_option maxRecDepth 100000
set_option maxHeartbeats 4000000
namespace K7
open PySem PySem.Spec PyProof.Rows L2 GX NdefX K24
/-! ### _one_rule -/
def simpleR (l : List Clk) (p : Nat) : Bool := decide (ruleL (l.drop p) = some .nothing) || decide (ruleL (l.drop p) = some .added)
def oneL (l : List Clk) : Option Nat := ((placesL l).filter (simpleR l) ++ placesL l).head?
theorem idx_filter {α : Type} (l : List α) (d : α) (p : α → Bool) : ((List.range l.length).filter fun i => p (l.getD i d)).map (fun i => l.getD i d) = l.filter p := by
  have h : l.filter p = ((List.range l.length).map (fun i => l.getD i d)).filter p := by rw [range_map_get]
  rw [h, List.filter_map]
  rfl
theorem places_rule {l : List Clk} {p : Nat} (h : p ∈ placesL l) : p < l.length ∧ ∃ r, ruleL (l.drop p) = some r := by
  obtain ⟨h1, h2⟩ := List.mem_filter.mp h
  exact ⟨List.mem_range.mp h1, Option.isSome_iff_exists.mp h2⟩
theorem one_mem {l : List Clk} {p : Nat} (h : oneL l = some p) : p ∈ placesL l := by
  have := List.mem_of_mem_head? h
  rcases List.mem_append.mp this with z | z
  · exact (List.mem_filter.mp z).1
  · exact z
theorem one_none {l : List Clk} (h : placesL l = []) : oneL l = none := by
  unfold oneL
  rw [h]
  rfl
theorem places_len (l : List Clk) : (placesL l).length ≤ l.length := by
  have := List.length_filter_le (fun p => (ruleL (l.drop p)).isSome) (List.range l.length)
  rw [List.length_range] at this
  exact this
def spOne0 : Sp := fun vs H Q _ => ∃ (a : Addr) (d : Nat) (l : List Clk), vs = [.ref a, .int (d : Nat)] ∧ RowT H a l ∧ l.length ≤ 100 ∧ (oneL l = none → ∀ H', Same H H' → Q .non H') ∧
  ∀ p r, oneL l = some p → ruleL (l.drop p) = some r → ∀ T H' b, Same H H' → H T = none → H' T = some (.tup [.ref b, .int ((useAt r l d p).2 : Nat), .str (ruN r)]) → RowT H' b (useAt r l d p).1 → Q (.ref T) H'
section
variable {P : Program} {w : World} {K : PySem.W.Frag} {mg : Str → Option Value} {base : Heap}
theorem ok_one0 {f fR fA fU : Addr} {fd fdR fdA fdU : FuncData} {k : Nat} (F : Fun K "_one_rule" "_one_rule" sOne0 f fd) (B : Bl mg) (FR : Fun K "_rules" "_rules" sRules0 fR fdR) (bR : Binds K fdR ["row"] []) (gR : mg "_rules" = some (.ref fR)) (FA : Fun K "_rule_at" "_rule_at" sRuleAt fA fdA) (bA : Binds K fdA ["row", "place"] []) (gA : mg "_rule_at" = some (.ref fA))
    (FU : Fun K "_used" "_used" sUsed fU fdU) (bU : Binds K fdU ["row", "delay", "place", "rule"] []) (gU : mg "_used" = some (.ref fU)) : FnOk P w K mg base CX0 (k + 3) f fd ["row", "delay"] spOne0 := by
  have GR : FnOk P w K mg base CX0 (k + 2) fR fdR ["row"] spRules0 := ok_rules0 FR B FA bA gA
  have GU : FnOk P w K mg base CX0 (k + 2) fU fdU ["row", "delay", "place", "rule"] spUsed := ok_used FU B
  refine F.ok scOne0 (fun vs H Q E h => ?_) (fun cdv A outer s H vs Q E hr h => ?_)
  · obtain ⟨a, d, l, rfl, _⟩ := h
    rfl
  · obtain ⟨a, d, l, rfl, hrow, hl, q0, q1⟩ := h
    refine ⟨_, pss_cons (ps_set (i := 2) scOne0.nd rfl (.inl rfl) (pe_call GR hr (by rfl) gR FR.kp bR .nil pass0 (pa_cons (pv 0) pa_nil)))
      (pss_cons (ps_if (pt_not (pt_truth (pv 2) (by intro _; rfl))) (pss_one (ps_ret pe_non)) pss_nil)
      (pss_cons (ps_set (i := 3) scOne0.nd rfl (.inl rfl) (pe_op op_cat (pe_lc (own := [("pair", 4)]) (g := gName 4) (tt := tTest (tOp (rIn K false) (tOp (rIxT K) (tVar 4) (tC (.int 1))) (tTup (tCons (tC (.str "nothing")) (tCons (tC (.str "added")) tNil))))) rfl scOne0.nd (pi_list (pv 2)) (blkOk_by (own := [("pair", 4)]) (N := ["row", "delay", "rules", "first", "pair", "place", "rule"]) (sc := defScope sOne0) (by decide +kernel)) (fun _ _ _ _ _ => pg_name (i := 4) scOne0.nd rfl (Or.inl rfl))
          (fun _ _ _ _ _ => pts_one (pt_cmpR op_in_seq (pe_ix (r := rIxT K) ix_tup (pv 4) pe_int (fun _ _ => rfl)) (pe_tup (pa_cons pe_str (pa_cons pe_str pa_nil))) (by rfl))) (fun _ _ _ _ _ => pv 4)) (pv 2)))
      (pss_cons (ps_asg (pe_ix (r := rIxL K) ix_list (pv 3) pe_int (fun _ _ => rfl)) (pg_tup rfl (pgs_cons (pg_name (i := 5) scOne0.nd rfl (Or.inl rfl)) (pgs_cons (pg_name (i := 6) scOne0.nd rfl (Or.inl rfl)) pgs_nil))))
      (pss_one (ps_ret (pe_op op_catA (pe_call GU hr (by rfl) gU FU.kp bU .nil pass0 (pa_cons (pv 0) (pa_cons (pv 1) (pa_cons (pv 5) (pa_cons (pv 6) pa_nil))))) (pe_tup (pa_cons (pv 6) pa_nil)))))))), ?_⟩
    refine ⟨.ref a, rfl, a, l, rfl, hrow, hl, fun D H1 ts s1 nD e1 pt => ?_⟩
    have lps := places_len l
    have lts : ts.length = (placesL l).length := by rw [pt.length, List.length_map]
    refine ⟨.ref D, rfl, _, .inl ⟨ts, sqL e1, rfl⟩, ?_⟩
    by_cases hz : placesL l = []
    · have ez : ts = [] := List.length_eq_zero_iff.mp (by rw [lts, hz]; rfl)
      subst ez
      exact iteTq rfl (q0 (one_none hz) H1 s1)
    · have hne : ts ≠ [] := fun z => hz (List.length_eq_zero_iff.mp (by rw [← lts, z]; rfl))
      refine iteFq (by cases ts with | nil => exact absurd rfl hne | cons _ _ => rfl) ?_
      refine ⟨.ref D, rfl, D, rfl, ⟨ts, sqL e1⟩, fun E1 nE => ?_⟩
      refine lcTupK (n := ts.length) (fun i => simpleR l ((placesL l).getD i 0)) (fun i => rlV l ((placesL l).getD i 0)) nE (by omega) (fun i H3 h s3 => ⟨ts, ts[i], sqL (s3 _ _ e1), List.getElem?_eq_getElem h⟩) (fun H3 s3 => ⟨ts, sqL (s3 _ _ e1), Nat.le_refl _⟩) (fun i x H3 H' Qk Qn hi s3 y hT hF => ?_) (fun H3 us s3 e3 pu => ?_)
      · obtain ⟨rfl, hx⟩ := y
        have hx := hx ts (sqL (s3 _ _ e1))
        obtain ⟨vs, b, hv, rfl, hb⟩ := tups_got (pt.same s3) hx
        rw [List.getElem?_map] at hv
        obtain ⟨p, hp, rfl⟩ := Option.map_eq_some_iff.mp hv
        rw [getD_at hp] at hT hF
        obtain ⟨_, r, hr⟩ := places_rule (List.mem_of_getElem? hp)
        refine ⟨rfl, .ref b, rfl, b, _, 1, .str (ruN r), rfl, rfl, sqT hb, ?_, by show 2 ≤ sizeLine; decide, fun W nW => ?_⟩
        · unfold rlV
          rw [hr]
          exact atI_nat (j := 1) rfl
        have sW := same_upd nW (o := .tup [.str "nothing", .str "added"])
        refine ⟨W, [.str "nothing", .str "added"], rfl, .inr (sqT upd_same), rfl, rfl, _, rfl, ?_⟩
        have ei : inV (.str (ruN r)) [.str "nothing", .str "added"] = simpleR l p := by
          unfold simpleR
          rw [hr]
          cases r <;> decide
        show if (inV (.str (ruN r)) [.str "nothing", .str "added"]) = true then _ else _
        rw [ei]
        cases hs : simpleR l p with
        | true => exact iteTq rfl ⟨.ref b, rfl, hT _ _ hs ⟨b, rfl, sW _ _ hb⟩ sW⟩
        | false => exact iteFq rfl (hF _ hs sW)
      · rw [lts] at pu
        have ef : ((List.range (placesL l).length).filter fun i => simpleR l ((placesL l).getD i 0)).map (fun i => rlV l ((placesL l).getD i 0)) = ((placesL l).filter (simpleR l)).map (rlV l) := by
          rw [← idx_filter (placesL l) 0, List.map_map]
          rfl
        rw [ef] at pu
        have lus : us.length ≤ 100 := by
          have h1 := pu.length
          have h2 := List.length_filter_le (simpleR l) (placesL l)
          rw [List.length_map] at h1
          omega
        refine ⟨.ref D, rfl, E1, D, us, ts, rfl, rfl, e3, s3 _ _ e1, by rw [sizeLine_eq]; omega, fun C nC => ?_⟩
        have sC := same_upd nC (o := .lst (us ++ ts))
        have pc : TupsT (upd H3 C (.lst (us ++ ts))) (us ++ ts) (((placesL l).filter (simpleR l) ++ placesL l).map (rlV l)) := by
          rw [List.map_append]
          exact paired_app (pu.same sC) ((pt.same s3).same sC)
        obtain ⟨p, hp⟩ : ∃ p, oneL l = some p := by
          unfold oneL
          cases hps : placesL l with
          | nil => exact absurd hps hz
          | cons a r =>
            rw [← hps]
            cases hf : (placesL l).filter (simpleR l) with
            | nil => exact ⟨a, by rw [hps]; rfl⟩
            | cons b _ => exact ⟨b, rfl⟩
        obtain ⟨hpl, r, hr⟩ := places_rule (one_mem hp)
        have h0 : ((((placesL l).filter (simpleR l) ++ placesL l)).map (rlV l))[0]? = some (rlV l p) := by
          unfold oneL at hp
          rw [List.getElem?_map, ← List.head?_eq_getElem?, hp]
          rfl
        obtain ⟨x, hx, b, rfl, hb⟩ := paired_got pc h0
        have s13 := s1.trans (s3.trans sC)
        refine ⟨.ref C, rfl, C, _, 0, .ref b, rfl, rfl, sqL upd_same, atI_nat (j := 0) hx, b, _, rfl, sqT hb, rfl, .int (p : Nat), _, rfl, ruV (ruleL (l.drop p)), _, rfl, rfl, ?_⟩
        rw [hr]
        refine ⟨.ref a, rfl, .int (d : Nat), rfl, .int (p : Nat), rfl, .str (ruN r), rfl, a, d, p, r, l, rfl, hrow.same s13, hl, hr, fun T H4 b2 s4 nT eT hb2 => ?_⟩
        refine ⟨.str (ruN r), rfl, by show 1 ≤ sizeLine; decide, fun W nW => ?_⟩
        have sW := same_upd nW (o := .tup [.str (ruN r)])
        refine ⟨T, W, _, _, rfl, rfl, sqT (sW _ _ eT), sqT upd_same, by show 3 ≤ sizeLine; decide, (fun z => by cases z), (fun _ z => by cases z), fun _ _ X nX => ?_⟩
        have sX := same_upd nX (o := .tup ([.ref b2, .int ((useAt r l d p).2 : Nat)] ++ [.str (ruN r)]))
        exact q1 p r hp hr X _ b2 (s13.trans (s4.trans (sW.trans sX))) (none_of_same (s13.trans (s4.trans sW)) nX) upd_same (hb2.same (sW.trans sX))
end
end K7

set_option Elab.async false
set_option linter.all false
set_option maxRecDepth 100000
set_option maxHeartbeats 4000000
namespace K7
open PySem PySem.Spec PyProof.Rows L2 GX NdefX K24
/-! ### _normal -/
/-- rules lead from the one to the other -/
def Led (l : List Clk) (d : Nat) (l' : List Clk) (d' : Nat) : Prop := run s0 l' = run s0 l ∧ onS l' + d' = onS l + d
theorem Led.use {l l1 : List Clk} {d d1 p : Nat} {r : Ru} (h : Led l d l1 d1) (hr : ruleL (l1.drop p) = some r) : Led l d (useAt r l1 d1 p).1 (useAt r l1 d1 p).2 := by
  obtain ⟨h1, h2, _⟩ := useAt_all (d := d1) hr
  exact ⟨h1.trans h.1, h2.trans h.2⟩
theorem norm_of {l : List Clk} (h : oneL l = none) : Norm l := by
  have hz : placesL l = [] := by
    cases hp : placesL l with
    | nil => rfl
    | cons a r =>
      unfold oneL at h
      rw [hp] at h
      cases hf : (a :: r).filter (simpleR l) with
      | nil => rw [hf] at h; cases h
      | cons b _ => rw [hf] at h; cases h
  intro p
  by_cases hp : p < l.length
  · cases hr : ruleL (l.drop p) with
    | none => rfl
    | some r =>
      have : p ∈ placesL l := List.mem_filter.mpr ⟨List.mem_range.mpr hp, by rw [hr]; rfl⟩
      rw [hz] at this
      exact nomatch this
  · rw [List.drop_eq_nil_of_le (by omega)]
    rfl
def spNormal0 : Sp := fun vs H Q _ => ∃ (a : Addr) (d : Nat) (l : List Clk), vs = [.ref a, .int (d : Nat)] ∧ RowT H a l ∧ l.length ≤ 100 ∧
  ∀ T H' b l' d', Led l d l' d' → Norm l' → Same H H' → H T = none → H' T = some (.tup [.ref b, .int (d' : Nat)]) → RowT H' b l' → Q (.ref T) H'
/-- what stands ahead of the next turn -/
def NxtV (H' : Hp) (l1 : List Clk) (d1 : Nat) (tv : V) : Prop := (tv = .non ∧ oneL l1 = none) ∨ ∃ p r T b, oneL l1 = some p ∧ ruleL (l1.drop p) = some r ∧ tv = .ref T ∧ H' T = some (.tup [.ref b, .int ((useAt r l1 d1 p).2 : Nat), .str (ruN r)]) ∧ RowT H' b (useAt r l1 d1 p).1
theorem spOne0_of {a : Addr} {d : Nat} {l : List Clk} {H : Hp} {Q : VK} {E : XK} (hrow : RowT H a l) (hl : l.length ≤ 100) (h : ∀ tv H', Same H H' → NxtV H' l d tv → Q tv H') : spOne0 [.ref a, .int (d : Nat)] H Q E :=
  ⟨a, d, l, rfl, hrow, hl, fun h0 H' s => h _ _ s (.inl ⟨rfl, h0⟩), fun p r hp hr T H' b s _ eT hb => h _ _ s (.inr ⟨p, r, T, b, hp, hr, rfl, eT, hb⟩)⟩
section
variable {P : Program} {w : World} {K : PySem.W.Frag} {mg : Str → Option Value} {base : Heap}
theorem ok_normal0 {f fO fR fA fU : Addr} {fd fdO fdR fdA fdU : FuncData} {k : Nat} (F : Fun K "_normal" "_normal" sNormal0 f fd) (B : Bl mg) (FO : Fun K "_one_rule" "_one_rule" sOne0 fO fdO) (bO : Binds K fdO ["row", "delay"] []) (gO : mg "_one_rule" = some (.ref fO))
    (FR : Fun K "_rules" "_rules" sRules0 fR fdR) (bR : Binds K fdR ["row"] []) (gR : mg "_rules" = some (.ref fR)) (FA : Fun K "_rule_at" "_rule_at" sRuleAt fA fdA) (bA : Binds K fdA ["row", "place"] []) (gA : mg "_rule_at" = some (.ref fA))
    (FU : Fun K "_used" "_used" sUsed fU fdU) (bU : Binds K fdU ["row", "delay", "place", "rule"] []) (gU : mg "_used" = some (.ref fU)) : FnOk P w K mg base CX0 (k + 4) f fd ["row", "delay"] spNormal0 := by
  have GO : FnOk P w K mg base CX0 (k + 3) fO fdO ["row", "delay"] spOne0 := ok_one0 FO B FR bR gR FA bA gA FU bU gU
  refine F.ok scNormal0 (fun vs H Q E h => ?_) (fun cdv A outer s H vs Q E hr h => ?_)
  · obtain ⟨a, d, l, rfl, _⟩ := h
    rfl
  · obtain ⟨a, d, l, rfl, hrow, hl, q⟩ := h
    refine ⟨_, pss_cons (ps_set (i := 2) scNormal0.nd rfl (.inl rfl) (pe_call GO hr (by rfl) gO FO.kp bO .nil pass0 (pa_cons (pv 0) (pa_cons (pv 1) pa_nil))))
      (pss_cons (ps_while PassesOwn.never (pt_cmpR op_notN (pv 2) pe_non (nomark _))
        (pss_cons (ps_asg (pv 2) (pg_tup rfl (pgs_cons (pg_name (i := 0) scNormal0.nd rfl (Or.inl rfl)) (pgs_cons (pg_name (i := 1) scNormal0.nd rfl (Or.inl rfl)) (pgs_cons (pg_name (i := 3) scNormal0.nd rfl (Or.inl rfl)) pgs_nil)))))
        (pss_one (ps_set (i := 2) scNormal0.nd rfl (.inl rfl) (pe_call GO hr (by rfl) gO FO.kp bO .nil pass0 (pa_cons (pv 0) (pa_cons (pv 1) pa_nil)))))))
      (pss_one (ps_ret (pe_tup (pa_cons (pv 0) (pa_cons (pv 1) pa_nil)))))), ?_⟩
    refine ⟨.ref a, rfl, .int (d : Nat), rfl, ?_⟩
    delta tNil
    refine spOne0_of hrow hl fun tv H1 s1 nx => ?_
    refine ⟨fun m σ H' => ∃ a1 l1 d1 tv c3, σ = [some (.ref a1), some (.int (d1 : Nat)), some tv, c3] ∧ m = l1.length ∧ Same H H' ∧ RowT H' a1 l1 ∧ l1.length ≤ 100 ∧ Led l d l1 d1 ∧ NxtV H' l1 d1 tv, ⟨l.length, a, l, d, tv, none, rfl, rfl, s1, hrow.same s1, hl, ⟨rfl, rfl⟩, nx⟩, ?_⟩
    rintro m σ H2 ⟨a1, l1, d1, tv, c3, rfl, rfl, s2, hr1, hl1, led, nx⟩
    refine ⟨tv, rfl, rfl, _, rfl, ?_⟩
    rcases nx with ⟨rfl, h0⟩ | ⟨p, r, T, b, hp, hrl, rfl, eT, hb⟩
    · refine iteFq rfl ⟨.ref a1, rfl, .int (d1 : Nat), rfl, by show 2 ≤ sizeLine; decide, fun T nT => ?_⟩
      have sT := same_upd nT (o := .tup [.ref a1, .int (d1 : Nat)])
      exact q T _ a1 l1 d1 led (norm_of h0) (s2.trans sT) (none_of_same s2 nT) upd_same (hr1.same sT)
    · have hlt := (useAt_all (d := d1) hrl).2.2.2
      refine iteTq rfl ⟨fun σ' H' => ∃ a2 l2 d2 tv c3, σ' = [some (.ref a2), some (.int (d2 : Nat)), some tv, c3] ∧ l2.length < l1.length ∧ Same H H' ∧ RowT H' a2 l2 ∧ l2.length ≤ 100 ∧ Led l d l2 d2 ∧ NxtV H' l2 d2 tv, ?_, ?_⟩
      · rintro σ' H' ⟨a2, l2, d2, tv, c, e, hlt, r1, r2, r3, r4, r5⟩
        exact ⟨l2.length, hlt, a2, l2, d2, tv, c, e, rfl, r1, r2, r3, r4, r5⟩
      · have led2 := led.use hrl
        generalize useAt r l1 d1 p = u at hlt eT hb led2
        obtain ⟨l2, d2⟩ := u
        refine ⟨.ref T, rfl, T, _, rfl, sqT eT, rfl, .ref b, _, rfl, .int (d2 : Nat), _, rfl, .str (ruN r), _, rfl, rfl, ?_⟩
        refine ⟨.ref b, rfl, .int (d2 : Nat), rfl, ?_⟩
        (try delta tNil)
        refine spOne0_of hb (by show l2.length ≤ 100; have : l2.length < l1.length := hlt; omega) fun tv H3 s3 nx3 => ?_
        exact ⟨b, l2, d2, tv, _, rfl, hlt, s2.trans s3, hb.same s3, by have : l2.length < l1.length := hlt; omega, led2, nx3⟩
end
end K7

set_option Elab.async false
set_option linter.all false
set_option maxRecDepth 100000
set_option maxHeartbeats 4000000
namespace K7
open PySem PySem.Spec PyProof.Rows L2 GX NdefX K24
/-- a def of the module's: where it stands, and how it is called -/
structure Dn (K : PySem.W.Frag) (mg : Str → Option Value) (x : Str) (st : Stmt) (ps : List Str) where
  f : Addr
  fd : FuncData
  F : Fun K x x st f fd
  b : Binds K fd ps []
  g : mg x = some (.ref f)
structure Pg (K : PySem.W.Frag) (mg : Str → Option Value) where
  li : Dn K mg "is_listed" sListed ["value"]
  wh : Dn K mg "is_whole" sWhole ["value", "least", "most"]
  bi : Dn K mg "is_bit" sBit ["value"]
  bs : Dn K mg "check_bits" sBits ["row"]
  dl : Dn K mg "delayed" sDelayed ["bits", "d"]
  ir : Dn K mg "_is_timer_row" sIsRow ["row"]
  tr : Dn K mg "_told_row" sTold ["row", "word"]
  cd : Dn K mg "_check_delay" sCkDelay ["delay", "word"]
  cr : Dn K mg "check_timer_row" sCkRow ["row"]
  wo : Dn K mg "_worked" sWorked ["kind", "number", "bits"]
  rb0 : Dn K mg "_row_bits" sRowBits0 ["row", "bits", "delay"]
  ra : Dn K mg "_rule_at" sRuleAt ["row", "place"]
  ru : Dn K mg "_rules" sRules0 ["row"]
  us : Dn K mg "_used" sUsed ["row", "delay", "place", "rule"]
  on0 : Dn K mg "_one_rule" sOne0 ["row", "delay"]
  no0 : Dn K mg "_normal" sNormal0 ["row", "delay"]
  on : Dn K mg "one_rule" sOne ["row", "delay"]
  rsa : Dn K mg "rules_at" sRulesAt ["row"]
  ue : Dn K mg "use" sUse ["row", "delay", "place"]
/-! ### delayed, _row_bits -/
def spDelayed : Sp := fun vs H Q _ => ∃ (a : Addr) (d : Nat) (xs : List Bool), vs = [.ref a, .int (d : Nat)] ∧ Sq H a (bsV xs) ∧ xs.length ≤ 500 ∧ ∀ T H', Same H H' → H' T = some (.tup (bsV (late d xs))) → Q (.ref T) H'
theorem rep_flat (v : V) : ∀ n : Nat, (List.replicate n [v]).flatten = List.replicate n v
  | 0 => rfl
  | n + 1 => by rw [List.replicate_succ, List.flatten_cons, rep_flat v n]; rfl
theorem late_V (d : Nat) (xs : List Bool) : List.replicate (min d xs.length) (V.int (0 : Nat)) ++ (bsV xs).take (xs.length - min d xs.length) = bsV (late d xs) := by
  unfold late bsV
  rw [List.map_append, List.map_replicate, List.map_take]
  rfl
section
variable {P : Program} {w : World} {K : PySem.W.Frag} {mg : Str → Option Value} {base : Heap}
theorem ok_delayed {k : Nat} (B : Bl mg) (X : Xc P K mg) (G : Pg K mg) : FnOk P w K mg base (CX P w) (k + 4) G.dl.f G.dl.fd ["bits", "d"] spDelayed := by
  have GB : FnOk P w K mg base (CX P w) (k + 3) G.bs.f G.bs.fd ["row"] (spBits X.CR) := ok_bits G.bs.F B X G.li.F G.li.b G.li.g G.bi.F G.bi.b G.bi.g G.wh.F G.wh.b G.wh.g
  have GW : FnOk P w K mg base CX0 (k + 3) G.wh.f G.wh.fd ["value", "least", "most"] spWholeN := ok_wholeN G.wh.F B
  have GN : FnOk P w K mg base CX0 (k + 2) X.fN X.dN ["self", "word"] (spNum X.CN) := ok_num X.TN X.nN
  refine G.dl.F.okX scDelayed (fun vs H Q E h => ?_) (fun cdv A outer s H vs Q E hr h => ?_)
  · obtain ⟨a, d, xs, rfl, _⟩ := h
    rfl
  · obtain ⟨a, d, xs, rfl, hq, hl, q⟩ := h
    refine ⟨_, pss_cons (ps_set (i := 2) scDelayed.nd rfl (.inl rfl) (pe_call GB hr (by rfl) G.bs.g G.bs.F.kp G.bs.b .nil (passes_call (takes_of rfl rfl rfl rfl) (fun _ _ _ _ h => h)) (pa_cons (pv 0) pa_nil)))
      (pss_cons (ps_if (pt_not (pt_val (pe_call GW hr (by rfl) G.wh.g G.wh.F.kp G.wh.b .nil pass0 (pa_cons (pv 1) (pa_cons pe_int (pa_cons pe_non pa_nil))))))
        (pss_one (ps_raise rfl (takes_of rfl rfl rfl rfl) (pmk_oex X.TN.O X.TN.iC X.TN.tI GN hr X.bN .nil pass0 (by rfl) X.gN (pa_cons pe_str pa_nil)))) pss_nil)
      (pss_cons (ps_set (i := 3) scDelayed.nd rfl (.inl rfl) (pe_callB (call_min2 rfl) (by rfl) B.min (by decide +kernel) (pa_cons (pv 1) (pa_cons (pe_callB call_len (by rfl) B.len PySem.boot_len (pa_cons (pv 2) pa_nil)) pa_nil))))
      (pss_one (ps_ret (pe_op op_catA (pe_op op_repA (pe_tup (pa_cons pe_int pa_nil)) (pv 3)) (pe_slice sl_tupA (pv 2) po_none (po_some (pe_op op_sub (pe_callB call_len (by rfl) B.len PySem.boot_len (pa_cons (pv 2) pa_nil)) (pv 3))))))))), ?_⟩
    refine ⟨.ref a, rfl, .ref a, rfl, .inl ⟨a, xs, rfl, hq, by omega, fun T H1 s1 e1 => ?_⟩⟩
    refine ⟨.int (d : Nat), rfl, .int (d : Nat), 0, rfl, .inl ⟨_, rfl⟩, _, rfl, iteFq (by show (!decide ((0 : Int) ≤ (d : Nat))) = false; rw [decide_eq_true (by omega)]; rfl) ?_⟩
    refine ⟨.int (d : Nat), rfl, .ref T, rfl, .ref T, xs.length, rfl, lenV_sq (.inr e1) (bsV_len xs), _, _, rfl, ?_⟩
    have em : (if ((xs.length : Nat) : Int) < (d : Nat) then ((xs.length : Nat) : Int) else ((d : Nat) : Int)) = ((min d xs.length : Nat) : Int) := by
      split <;> omega
    rw [em]
    generalize hm : min d xs.length = m at *
    have hml : m ≤ xs.length := by omega
    refine ⟨by show 1 ≤ sizeLine; decide, fun U nU => ?_⟩
    have sU := same_upd nU (o := .tup [V.int 0])
    refine ⟨.int (m : Nat), rfl, U, _, [.int 0], rfl, rfl, sqT upd_same, by simp, by omega, by omega, by decide, ?_⟩
    have go : ∀ W H2, Same H1 H2 → H2 W = some (.tup (List.replicate m (.int (0 : Nat)))) → tSl (rSlA K) (tVar 2) tNoPart (tPart (tOp (rI0 fun i j => V.int (i - j)) (tCB (fun xs H_1 Q => ∃ x n, xs = [x] ∧ LenV K x H_1 n ∧ Q (V.int n) H_1) (tCons (tVar 2) tNil)) (tVar 3)))
        [some (.ref a), some (.int (d : Nat)), some (.ref T), some (.int (m : Nat))] H2 fun y H3 => rCatA K (.ref W) y H3 Q := by
      intro W H2 s2 eW
      have e2 := s2 _ _ e1
      refine ⟨.ref T, rfl, ?_⟩
      (try delta tNoPart)
      refine ⟨.ref T, rfl, .ref T, xs.length, rfl, lenV_sq (.inr e2) (bsV_len xs), .int (m : Nat), rfl, _, _, rfl, rfl, _, rfl, ?_⟩
      refine slA e2 fun p H3 s3 e3 => ?_
      have ec : ((xs.length : Nat) : Int) - (m : Nat) = ((xs.length - m : Nat) : Int) := by omega
      rw [ec, cut_to] at e3
      refine catA (s3 _ _ eW) e3 (by rw [List.length_replicate, List.length_take, bsV_len]; omega) fun Z H4 s4 e4 => ?_
      refine q Z H4 (((s1.trans s2).trans s3).trans s4) ?_
      rw [e4, ← late_V, hm]
    refine ⟨fun m1 => ?_, fun m1 p np => ?_⟩
    · have m1 : m = 1 := by omega
      refine go U _ sU ?_
      rw [upd_same, m1]
      rfl
    · refine go p _ (sU.trans (same_upd np)) ?_
      rw [upd_same, rep_flat]
      rfl
end
end K7

set_option Elab.async false
set_option linter.all false
set_option maxRecDepth 100000
set_option maxHeartbeats 4000000
namespace K7
open PySem PySem.Spec PyProof.Rows L2 GX NdefX K24
theorem scRowBits : FnScope ["row", "bits", "delay", "told", "handed_in"] ["row", "bits", "delay"] (defScope sRowBits) := ⟨rfl, rfl, rfl, by decide +kernel, rfl, by decide +kernel, by decide +kernel⟩
theorem scNormal : FnScope ["row", "delay", "told"] ["row", "delay"] (defScope sNormal) := ⟨rfl, rfl, rfl, by decide +kernel, rfl, by decide +kernel, by decide +kernel⟩
/-- n values from the left and one by its word -/
def kG {α : Type} (n : Nat) (us ws : List α) : List α := match us.length == n && ws.length == 1 with
  | true => us ++ ws
  | false => []
theorem kG_rel {n : Nat} {vs zs : List V} {us ws : List Value} (r : Vals vs us) (q : Vals zs ws) : Vals (kG n vs zs) (kG n us ws) := by
  unfold kG
  rw [r.length, q.length]
  cases us.length == n && ws.length == 1 with
  | true => exact r.append q
  | false => exact .nil
/-- a def whose last argument is given by its word -/
structure Kn (K : PySem.W.Frag) (mg : Str → Option Value) (x : Str) (st : Stmt) (ps : List Str) where
  f : Addr
  fd : FuncData
  F : Fun K x x st f fd
  b : KBinds K fd ps ["delay"] (kG (ps.length - 1)) (kG (ps.length - 1))
  g : mg x = some (.ref f)
  d0 : Tok
  b0 : Binds K fd ps [.int 0 d0]
theorem whole_nat (d : Nat) : wholeN 0 (.int (d : Nat)) = true := decide_eq_true (show (0 : Int) ≤ (d : Nat) by omega)
def spRowBits0 : Sp := fun vs H Q _ => ∃ (a b : Addr) (d : Nat) (l : List Clk) (xs : List Bool), vs = [.ref a, .ref b, .int (d : Nat)] ∧ RowT H a l ∧ Sq H b (bsV xs) ∧ xs.length ≤ 500 ∧ ∀ T H', Same H H' → H' T = some (.tup (bsV (outL stP l d xs))) → Q (.ref T) H'
def Bit2 (H : Hp) (y : V) (b : Bool) (i : Int) : Prop := ∃ a, y = .ref a ∧ Sq H a [.int (b2n b : Nat), .int i] ∧ isB i = false
def Bits (H : Hp) (y : V) (xs : List Bool) : Prop := ∃ b, y = .ref b ∧ Sq H b (bsV xs) ∧ xs.length ≤ 500
def Num (z : V) : Prop := (∃ i, z = .int i) ∨ (∃ b, z = .bl b) ∨ ∃ s, z = .str s
def spRowBits (CN CR : Addr) : Sp := fun vs H Q E => ∃ (x y z : V), vs = [x, y, z] ∧ ((∃ l xs d, RowAt H x l ∧ Bits H y xs ∧ z = .int (d : Nat) ∧ ∀ T H', Same H H' → H' T = some (.tup (bsV (outL stP l d xs))) → Q (.ref T) H') ∨
  (BadRowV H x ∧ Rai E CN H [("word", .str "row")]) ∨ (∃ l, RowAt H x l ∧ ((Scal y ∧ Rai E CR H [("place", .int (-1))]) ∨ (∃ b i, Bit2 H y b i ∧ Rai E CR H [("place", .int 1)]) ∨ ∃ xs, Bits H y xs ∧ Num z ∧ wholeN 0 z = false ∧ Rai E CN H [("word", .str "delay")])))
section
variable {P : Program} {w : World} {K : PySem.W.Frag} {mg : Str → Option Value} {base : Heap}
theorem ok_rowBits0 {k : Nat} (B : Bl mg) (X : Xc P K mg) (G : Pg K mg) : FnOk P w K mg base (CX P w) (k + 5) G.rb0.f G.rb0.fd ["row", "bits", "delay"] spRowBits0 := by
  have GD : FnOk P w K mg base (CX P w) (k + 4) G.dl.f G.dl.fd ["bits", "d"] spDelayed := ok_delayed B X G
  have GW : FnOk P w K mg base CX0 (k + 4) G.wo.f G.wo.fd ["kind", "number", "bits"] spWorked := ok_worked G.wo.F B
  refine G.rb0.F.okX scRowBits0 (fun vs H Q E h => ?_) (fun cdv A outer s H vs Q E hr h => ?_)
  · obtain ⟨a, b, d, l, xs, rfl, _⟩ := h
    rfl
  · obtain ⟨a, b, d, l, xs, rfl, ⟨ts, ha, pl⟩, hq, hl, q⟩ := h
    refine ⟨_, pss_cons (ps_for (by passes_own) rfl (pi_seq (pv 0)) (pg_tup rfl (pgs_cons (pg_name (i := 3) scRowBits0.nd rfl (Or.inl rfl)) (pgs_cons (pg_name (i := 4) scRowBits0.nd rfl (Or.inl rfl)) pgs_nil)))
        (pss_one (ps_set (i := 1) scRowBits0.nd rfl (.inl rfl) (pe_call GW hr (by rfl) G.wo.g G.wo.F.kp G.wo.b .nil pass0 (pa_cons (pv 3) (pa_cons (pv 4) (pa_cons (pv 1) pa_nil)))))))
      (pss_one (ps_ret (pe_call GD hr (by rfl) G.dl.g G.dl.F.kp G.dl.b .nil (passes_call (takes_of rfl rfl rfl rfl) (fun _ _ _ _ h => h)) (pa_cons (pv 1) (pa_cons (pv 2) pa_nil))))), ?_⟩
    have lts : ts.length = l.length := pl.length
    refine ⟨.ref a, rfl, a, ts, rfl, forSeq (D := { nx := _, rt := Q }) (fun i σ H' => (∃ b' c3 c4, σ = [some (.ref a), some (.ref b'), some (.int (d : Nat)), c3, c4] ∧ Sq H' b' (bsV (rowL stP (l.take i) xs))) ∧ Same H H') (.inr ha) ⟨⟨b, none, none, rfl, hq⟩, Same.refl _⟩ (fun i σ H' o p e => p.2 _ _ e) ?_ ?_⟩
    · rintro i x σ H2 hx ⟨⟨b', c3, c4, rfl, hb⟩, s2⟩
      obtain ⟨c, hc, u, rfl, hu⟩ := paired_get pl hx
      refine ⟨u, _, rfl, sqT (s2 _ _ hu), rfl, .str (kn c.1), _, rfl, .int (c.2 : Nat), _, rfl, rfl, ?_⟩
      refine ⟨.str (kn c.1), rfl, .int (c.2 : Nat), rfl, .ref b', rfl, c, b', _, rfl, hb, by rw [rowL_len]; omega, fun D H3 s3 nD e3 => ?_⟩
      refine ⟨⟨D, _, _, rfl, ?_⟩, s2.trans s3⟩
      rw [take_get hc]
      unfold rowL
      rw [List.foldl_append]
      exact .inl e3
    · rintro σ H2 ⟨⟨b', c3, c4, rfl, hb⟩, s2⟩
      rw [lts, List.take_of_length_le (Nat.le_refl _)] at hb
      exact ⟨.ref b', rfl, .int (d : Nat), rfl, b', d, _, rfl, hb, by rw [rowL_len]; exact hl, fun T H3 s3 e3 => q T H3 (s2.trans s3) e3⟩
theorem ok_rowBits {k : Nat} (B : Bl mg) (C : Cn K mg) (X : Xc P K mg) (G : Pg K mg) (N : Kn K mg "row_bits" sRowBits ["row", "bits", "delay"]) : FnOk P w K mg base (CX P w) (k + 6) N.f N.fd ["row", "bits", "delay"] (spRowBits X.CN X.CR) := by
  have G0 : FnOk P w K mg base (CX P w) (k + 5) G.rb0.f G.rb0.fd ["row", "bits", "delay"] spRowBits0 := ok_rowBits0 B X G
  have GT : FnOk P w K mg base (CX P w) (k + 5) G.tr.f G.tr.fd ["row", "word"] (spTold X.CN) := ok_told G.tr.F B C X G.ir.F G.ir.b G.ir.g G.li.F G.li.b G.li.g G.wh.F G.wh.b G.wh.g
  have GB : FnOk P w K mg base (CX P w) (k + 5) G.bs.f G.bs.fd ["row"] (spBits X.CR) := ok_bits G.bs.F B X G.li.F G.li.b G.li.g G.bi.F G.bi.b G.bi.g G.wh.F G.wh.b G.wh.g
  have GC : FnOk P w K mg base (CX P w) (k + 5) G.cd.f G.cd.fd ["delay", "word"] (spCkDelay X.CN) := ok_ckDelay G.cd.F B X G.wh.F G.wh.b G.wh.g
  refine N.F.okX scRowBits (fun vs H Q E h => ?_) (fun cdv A outer s H vs Q E hr h => ?_)
  · obtain ⟨x, y, z, rfl, _⟩ := h
    rfl
  · obtain ⟨x, y, z, rfl, h⟩ := h
    refine ⟨_, pss_cons (ps_set (i := 3) scRowBits.nd rfl (.inl rfl) (pe_call GT hr (by rfl) G.tr.g G.tr.F.kp G.tr.b .nil (passes_call (takes_of rfl rfl rfl rfl) (fun _ _ _ _ h => h)) (pa_cons (pv 0) (pa_cons pe_str pa_nil))))
      (pss_cons (ps_set (i := 4) scRowBits.nd rfl (.inl rfl) (pe_call GB hr (by rfl) G.bs.g G.bs.F.kp G.bs.b .nil (passes_call (takes_of rfl rfl rfl rfl) (fun _ _ _ _ h => h)) (pa_cons (pv 1) pa_nil)))
      (pss_cons (ps_expr (pe_call GC hr (by rfl) G.cd.g G.cd.F.kp G.cd.b .nil (passes_call (takes_of rfl rfl rfl rfl) (fun _ _ _ _ h => h)) (pa_cons (pv 2) (pa_cons pe_str pa_nil))))
      (pss_one (ps_ret (pe_call G0 hr (by rfl) G.rb0.g G.rb0.F.kp G.rb0.b .nil (passes_call (takes_of rfl rfl rfl rfl) (fun _ _ _ _ h => h)) (pa_cons (pv 3) (pa_cons (pv 4) (pa_cons (pv 2) pa_nil)))))))), ?_⟩
    refine ⟨x, rfl, x, "row", rfl, by decide, ?_⟩
    rcases h with ⟨l, xs, d, hrow, ⟨b, rfl, hq, hl⟩, rfl, q⟩ | ⟨hb, hx⟩ | ⟨l, hrow, h⟩
    · refine .inl ⟨l, hrow, fun T H1 s1 _ h1 => ?_⟩
      refine ⟨.ref b, rfl, .ref b, rfl, .inl ⟨b, xs, rfl, hq.same s1, by omega, fun U H2 s2 e2 => ?_⟩⟩
      refine ⟨.int (d : Nat), rfl, .int (d : Nat), "delay", rfl, by decide, .inl ⟨_, rfl⟩, .inl ⟨whole_nat d, ?_⟩⟩
      exact ⟨.ref T, rfl, .ref U, rfl, .int (d : Nat), rfl, T, U, d, l, xs, rfl, h1.same s2, .inr e2, hl, fun Z H3 s3 e3 => q Z H3 ((s1.trans s2).trans s3) e3⟩
    · exact .inr ⟨hb, hx⟩
    · refine .inl ⟨l, hrow, fun T H1 s1 _ h1 => ?_⟩
      rcases h with ⟨hs, hx⟩ | ⟨b, i, ⟨a, rfl, hq, hi⟩, hx⟩ | ⟨xs, ⟨b, rfl, hq, hl⟩, hn, hw, hx⟩
      · exact ⟨y, rfl, y, rfl, .inr (.inl ⟨hs, hx.same s1⟩)⟩
      · exact ⟨.ref a, rfl, .ref a, rfl, .inr (.inr ⟨a, b, i, rfl, hq.same s1, hi, hx.same s1⟩)⟩
      · refine ⟨.ref b, rfl, .ref b, rfl, .inl ⟨b, xs, rfl, hq.same s1, by omega, fun U H2 s2 e2 => ?_⟩⟩
        exact ⟨z, rfl, z, "delay", rfl, by decide, hn, .inr ⟨hw, hx.same (s1.trans s2)⟩⟩
end
end K7

set_option Elab.async false
set_option linter.all false
set_option maxRecDepth 100000
set_option maxHeartbeats 4000000
namespace K7
open PySem PySem.Spec PyProof.Rows L2 GX NdefX K24
/-- the two refusals ahead of all: the row, then the delay -/
def Ref2 (E : XK) (CN : Addr) (H : Hp) (x z : V) : Prop := (BadRowV H x ∧ Rai E CN H [("word", .str "row")]) ∨ ∃ l, RowAt H x l ∧ Num z ∧ wholeN 0 z = false ∧ Rai E CN H [("word", .str "delay")]
def spNormal (CN : Addr) : Sp := fun vs H Q E => ∃ (x z : V), vs = [x, z] ∧ ((∃ l d, RowAt H x l ∧ z = .int (d : Nat) ∧ ∀ T H' b l' d', Led l d l' d' → Norm l' → Same H H' → H T = none → H' T = some (.tup [.ref b, .int (d' : Nat)]) → RowT H' b l' → Q (.ref T) H') ∨ Ref2 E CN H x z)
def spOne (CN : Addr) : Sp := fun vs H Q E => ∃ (x z : V), vs = [x, z] ∧ ((∃ l d, RowAt H x l ∧ z = .int (d : Nat) ∧ (oneL l = none → ∀ H', Same H H' → Q .non H') ∧
  ∀ p r, oneL l = some p → ruleL (l.drop p) = some r → ∀ T H' b, Same H H' → H T = none → H' T = some (.tup [.ref b, .int ((useAt r l d p).2 : Nat), .str (ruN r)]) → RowT H' b (useAt r l d p).1 → Q (.ref T) H') ∨ Ref2 E CN H x z)
def spRulesAt (CN : Addr) : Sp := fun vs H Q E => ∃ (x : V), vs = [x] ∧ ((∃ l, RowAt H x l ∧ ∀ T H' ts, Same H H' → H T = none → H' T = some (.tup ts) → TupsT H' ts ((placesL l).map (rlV l)) → Q (.ref T) H') ∨ (BadRowV H x ∧ Rai E CN H [("word", .str "row")]))
/-- what use does with a place: a number or a bool -/
def spUse (CN : Addr) : Sp := fun vs H Q E => ∃ (x z y : V), vs = [x, z, y] ∧ ((∃ l d, RowAt H x l ∧ z = .int (d : Nat) ∧ ((∃ p r, y = .int (p : Nat) ∧ ruleL (l.drop p) = some r ∧ ∀ T H' b, Same H H' → H T = none → H' T = some (.tup [.ref b, .int ((useAt r l d p).2 : Nat)]) → RowT H' b (useAt r l d p).1 → Q (.ref T) H') ∨
  (((∃ i, y = .int i ∧ (i < 0 ∨ ruleL (l.drop i.toNat) = none)) ∨ ∃ b, y = .bl b) ∧ Rai E CN H [("word", .str "place")]))) ∨ Ref2 E CN H x z)
theorem rule_lt {l : List Clk} {p : Nat} {r : Ru} (h : ruleL (l.drop p) = some r) : p < l.length := by
  by_cases hp : p < l.length
  · exact hp
  · rw [List.drop_eq_nil_of_le (by omega)] at h
    cases h
section
variable {P : Program} {w : World} {K : PySem.W.Frag} {mg : Str → Option Value} {base : Heap}
theorem ok_normal {k : Nat} (B : Bl mg) (C : Cn K mg) (X : Xc P K mg) (G : Pg K mg) (N : Kn K mg "normal" sNormal ["row", "delay"]) : FnOk P w K mg base (CX P w) (k + 5) N.f N.fd ["row", "delay"] (spNormal X.CN) := by
  have G0 : FnOk P w K mg base CX0 (k + 4) G.no0.f G.no0.fd ["row", "delay"] spNormal0 := ok_normal0 G.no0.F B G.on0.F G.on0.b G.on0.g G.ru.F G.ru.b G.ru.g G.ra.F G.ra.b G.ra.g G.us.F G.us.b G.us.g
  have GT : FnOk P w K mg base (CX P w) (k + 4) G.tr.f G.tr.fd ["row", "word"] (spTold X.CN) := ok_told G.tr.F B C X G.ir.F G.ir.b G.ir.g G.li.F G.li.b G.li.g G.wh.F G.wh.b G.wh.g
  have GC : FnOk P w K mg base (CX P w) (k + 4) G.cd.f G.cd.fd ["delay", "word"] (spCkDelay X.CN) := ok_ckDelay G.cd.F B X G.wh.F G.wh.b G.wh.g
  refine N.F.okX scNormal (fun vs H Q E h => ?_) (fun cdv A outer s H vs Q E hr h => ?_)
  · obtain ⟨x, z, rfl, _⟩ := h
    rfl
  · obtain ⟨x, z, rfl, h⟩ := h
    refine ⟨_, pss_cons (ps_set (i := 2) scNormal.nd rfl (.inl rfl) (pe_call GT hr (by rfl) G.tr.g G.tr.F.kp G.tr.b .nil (passes_call (takes_of rfl rfl rfl rfl) (fun _ _ _ _ h => h)) (pa_cons (pv 0) (pa_cons pe_str pa_nil))))
      (pss_cons (ps_expr (pe_call GC hr (by rfl) G.cd.g G.cd.F.kp G.cd.b .nil (passes_call (takes_of rfl rfl rfl rfl) (fun _ _ _ _ h => h)) (pa_cons (pv 1) (pa_cons pe_str pa_nil))))
      (pss_one (ps_ret (pe_call G0 hr (by rfl) G.no0.g G.no0.F.kp G.no0.b .nil pass0 (pa_cons (pv 2) (pa_cons (pv 1) pa_nil)))))), ?_⟩
    refine ⟨x, rfl, x, "row", rfl, by decide, ?_⟩
    rcases h with ⟨l, d, hrow, rfl, q⟩ | ⟨hb, hx⟩ | ⟨l, hrow, hn, hw, hx⟩
    · have hl : l.length ≤ 100 := by obtain ⟨_, _, _, _, _, hl⟩ := hrow; exact hl
      refine .inl ⟨l, hrow, fun T H1 s1 nT h1 => ?_⟩
      refine ⟨.int (d : Nat), rfl, .int (d : Nat), "delay", rfl, by decide, .inl ⟨_, rfl⟩, .inl ⟨whole_nat d, ?_⟩⟩
      exact ⟨.ref T, rfl, .int (d : Nat), rfl, T, d, l, rfl, h1, hl, fun U H2 b l' d' hd hn s2 nU eU hb => q U H2 b l' d' hd hn (s1.trans s2) (none_of_same s1 nU) eU hb⟩
    · exact .inr ⟨hb, hx⟩
    · exact .inl ⟨l, hrow, fun T H1 s1 nT h1 => ⟨z, rfl, z, "delay", rfl, by decide, hn, .inr ⟨hw, hx.same s1⟩⟩⟩
theorem ok_one {k : Nat} (B : Bl mg) (C : Cn K mg) (X : Xc P K mg) (G : Pg K mg) : FnOk P w K mg base (CX P w) (k + 4) G.on.f G.on.fd ["row", "delay"] (spOne X.CN) := by
  have G0 : FnOk P w K mg base CX0 (k + 3) G.on0.f G.on0.fd ["row", "delay"] spOne0 := ok_one0 G.on0.F B G.ru.F G.ru.b G.ru.g G.ra.F G.ra.b G.ra.g G.us.F G.us.b G.us.g
  have GT : FnOk P w K mg base (CX P w) (k + 3) G.tr.f G.tr.fd ["row", "word"] (spTold X.CN) := ok_told G.tr.F B C X G.ir.F G.ir.b G.ir.g G.li.F G.li.b G.li.g G.wh.F G.wh.b G.wh.g
  have GC : FnOk P w K mg base (CX P w) (k + 3) G.cd.f G.cd.fd ["delay", "word"] (spCkDelay X.CN) := ok_ckDelay G.cd.F B X G.wh.F G.wh.b G.wh.g
  refine G.on.F.okX scOne (fun vs H Q E h => ?_) (fun cdv A outer s H vs Q E hr h => ?_)
  · obtain ⟨x, z, rfl, _⟩ := h
    rfl
  · obtain ⟨x, z, rfl, h⟩ := h
    refine ⟨_, pss_cons (ps_set (i := 2) scOne.nd rfl (.inl rfl) (pe_call GT hr (by rfl) G.tr.g G.tr.F.kp G.tr.b .nil (passes_call (takes_of rfl rfl rfl rfl) (fun _ _ _ _ h => h)) (pa_cons (pv 0) (pa_cons pe_str pa_nil))))
      (pss_cons (ps_expr (pe_call GC hr (by rfl) G.cd.g G.cd.F.kp G.cd.b .nil (passes_call (takes_of rfl rfl rfl rfl) (fun _ _ _ _ h => h)) (pa_cons (pv 1) (pa_cons pe_str pa_nil))))
      (pss_one (ps_ret (pe_call G0 hr (by rfl) G.on0.g G.on0.F.kp G.on0.b .nil pass0 (pa_cons (pv 2) (pa_cons (pv 1) pa_nil)))))), ?_⟩
    refine ⟨x, rfl, x, "row", rfl, by decide, ?_⟩
    rcases h with ⟨l, d, hrow, rfl, q0, q⟩ | ⟨hb, hx⟩ | ⟨l, hrow, hn, hw, hx⟩
    · have hl : l.length ≤ 100 := by obtain ⟨_, _, _, _, _, hl⟩ := hrow; exact hl
      refine .inl ⟨l, hrow, fun T H1 s1 nT h1 => ?_⟩
      refine ⟨.int (d : Nat), rfl, .int (d : Nat), "delay", rfl, by decide, .inl ⟨_, rfl⟩, .inl ⟨whole_nat d, ?_⟩⟩
      exact ⟨.ref T, rfl, .int (d : Nat), rfl, T, d, l, rfl, h1, hl, fun h0 H2 s2 => q0 h0 H2 (s1.trans s2), fun p r hp hr U H2 b s2 nU eU hb => q p r hp hr U H2 b (s1.trans s2) (none_of_same s1 nU) eU hb⟩
    · exact .inr ⟨hb, hx⟩
    · exact .inl ⟨l, hrow, fun T H1 s1 nT h1 => ⟨z, rfl, z, "delay", rfl, by decide, hn, .inr ⟨hw, hx.same s1⟩⟩⟩
theorem ok_rulesAt {k : Nat} (B : Bl mg) (C : Cn K mg) (X : Xc P K mg) (G : Pg K mg) : FnOk P w K mg base (CX P w) (k + 4) G.rsa.f G.rsa.fd ["row"] (spRulesAt X.CN) := by
  have G0 : FnOk P w K mg base CX0 (k + 3) G.ru.f G.ru.fd ["row"] spRules0 := ok_rules0 G.ru.F B G.ra.F G.ra.b G.ra.g
  have GT : FnOk P w K mg base (CX P w) (k + 3) G.tr.f G.tr.fd ["row", "word"] (spTold X.CN) := ok_told G.tr.F B C X G.ir.F G.ir.b G.ir.g G.li.F G.li.b G.li.g G.wh.F G.wh.b G.wh.g
  refine G.rsa.F.okX scRulesAt (fun vs H Q E h => ?_) (fun cdv A outer s H vs Q E hr h => ?_)
  · obtain ⟨x, rfl, _⟩ := h
    rfl
  · obtain ⟨x, rfl, h⟩ := h
    refine ⟨_, pss_one (ps_ret (pe_callTy (T := "tuple") (r := fun xs H Q => ∃ p ys, xs = [V.ref p] ∧ ((SqL K H p ys ∧ ∀ l, H l = none → Q (.ref l) (upd H l (.tup ys))) ∨ (SqT K H p ys ∧ Q (.ref p) H))) call_tuple_of (by rfl) B.tuple (by decide +kernel) (pa_cons
      (pe_call G0 hr (by rfl) G.ru.g G.ru.F.kp G.ru.b .nil pass0 (pa_cons (pe_call GT hr (by rfl) G.tr.g G.tr.F.kp G.tr.b .nil (passes_call (takes_of rfl rfl rfl rfl) (fun _ _ _ _ h => h)) (pa_cons (pv 0) (pa_cons pe_str pa_nil))) pa_nil)) pa_nil))), ?_⟩
    refine ⟨x, rfl, x, "row", rfl, by decide, ?_⟩
    rcases h with ⟨l, hrow, q⟩ | ⟨hb, hx⟩
    · have hl : l.length ≤ 100 := by obtain ⟨_, _, _, _, _, hl⟩ := hrow; exact hl
      refine .inl ⟨l, hrow, fun T H1 s1 nT h1 => ?_⟩
      refine ⟨T, l, rfl, h1, hl, fun D H2 ts s2 nD e2 pt => ?_⟩
      exact ⟨D, ts, rfl, .inl ⟨sqL e2, fun U nU => q U _ ts ((s1.trans s2).trans (same_upd nU)) (none_of_same (s1.trans s2) nU) upd_same (pt.same (same_upd nU))⟩⟩
    · exact .inr ⟨hb, hx⟩
end
end K7

set_option Elab.async false
set_option linter.all false
set_option maxRecDepth 100000
set_option maxHeartbeats 4000000
namespace K7
open PySem PySem.Spec PyProof.Rows L2 GX NdefX K24
section
variable {P : Program} {w : World} {K : PySem.W.Frag} {mg : Str → Option Value} {base : Heap}
theorem ok_use {k : Nat} (B : Bl mg) (C : Cn K mg) (X : Xc P K mg) (G : Pg K mg) : FnOk P w K mg base (CX P w) (k + 4) G.ue.f G.ue.fd ["row", "delay", "place"] (spUse X.CN) := by
  have G0 : FnOk P w K mg base CX0 (k + 3) G.us.f G.us.fd ["row", "delay", "place", "rule"] spUsed := ok_used G.us.F B
  have GA : FnOk P w K mg base CX0 (k + 3) G.ra.f G.ra.fd ["row", "place"] spRuleAt := ok_ruleAt G.ra.F B
  have GW : FnOk P w K mg base CX0 (k + 3) G.wh.f G.wh.fd ["value", "least", "most"] spWhole := ok_whole G.wh.F B
  have GT : FnOk P w K mg base (CX P w) (k + 3) G.tr.f G.tr.fd ["row", "word"] (spTold X.CN) := ok_told G.tr.F B C X G.ir.F G.ir.b G.ir.g G.li.F G.li.b G.li.g G.wh.F G.wh.b G.wh.g
  have GC : FnOk P w K mg base (CX P w) (k + 3) G.cd.f G.cd.fd ["delay", "word"] (spCkDelay X.CN) := ok_ckDelay G.cd.F B X G.wh.F G.wh.b G.wh.g
  have GN : FnOk P w K mg base CX0 (k + 2) X.fN X.dN ["self", "word"] (spNum X.CN) := ok_num X.TN X.nN
  refine G.ue.F.okX scUse (fun vs H Q E h => ?_) (fun cdv A outer s H vs Q E hr h => ?_)
  · obtain ⟨x, z, y, rfl, _⟩ := h
    rfl
  · obtain ⟨x, z, y, rfl, h⟩ := h
    refine ⟨_, pss_cons (ps_set (i := 3) scUse.nd rfl (.inl rfl) (pe_call GT hr (by rfl) G.tr.g G.tr.F.kp G.tr.b .nil (passes_call (takes_of rfl rfl rfl rfl) (fun _ _ _ _ h => h)) (pa_cons (pv 0) (pa_cons pe_str pa_nil))))
      (pss_cons (ps_expr (pe_call GC hr (by rfl) G.cd.g G.cd.F.kp G.cd.b .nil (passes_call (takes_of rfl rfl rfl rfl) (fun _ _ _ _ h => h)) (pa_cons (pv 1) (pa_cons pe_str pa_nil))))
      (pss_cons (ps_if (PW.pt (pw_or (pt_not (pt_val (pe_call GW hr (by rfl) G.wh.g G.wh.F.kp G.wh.b .nil pass0 (pa_cons (pv 2) (pa_cons pe_int (pa_cons (pe_op op_sub (pe_callB call_len (by rfl) B.len PySem.boot_len (pa_cons (pv 3) pa_nil)) pe_int) pa_nil))))))
          (pw_or1 (pt_cmpR op_isN (pe_call GA hr (by rfl) G.ra.g G.ra.F.kp G.ra.b .nil pass0 (pa_cons (pv 3) (pa_cons (pv 2) pa_nil))) pe_non (nomark _)))))
        (pss_one (ps_raise rfl (takes_of rfl rfl rfl rfl) (pmk_oex X.TN.O X.TN.iC X.TN.tI GN hr X.bN .nil pass0 (by rfl) X.gN (pa_cons pe_str pa_nil)))) pss_nil)
      (pss_one (ps_ret (pe_call G0 hr (by rfl) G.us.g G.us.F.kp G.us.b .nil pass0 (pa_cons (pv 3) (pa_cons (pv 1) (pa_cons (pv 2) (pa_cons (pe_call GA hr (by rfl) G.ra.g G.ra.F.kp G.ra.b .nil pass0 (pa_cons (pv 3) (pa_cons (pv 2) pa_nil))) pa_nil))))))))), ?_⟩
    refine ⟨x, rfl, x, "row", rfl, by decide, ?_⟩
    rcases h with ⟨l, d, hrow, rfl, h⟩ | ⟨hb, hx⟩ | ⟨l, hrow, hn, hw, hx⟩
    · have hl : l.length ≤ 100 := by obtain ⟨_, _, _, _, _, hl⟩ := hrow; exact hl
      refine .inl ⟨l, hrow, fun T H1 s1 nT h1 => ?_⟩
      refine ⟨.int (d : Nat), rfl, .int (d : Nat), "delay", rfl, by decide, .inl ⟨_, rfl⟩, .inl ⟨whole_nat d, ?_⟩⟩
      have hlen : LenV K (.ref T) H1 l.length := by
        obtain ⟨xs, e, p⟩ := h1
        exact lenV_sq (.inr e) p.length
      rcases h with ⟨p, r, rfl, hp, q⟩ | ⟨h, hx⟩
      · have hlt := rule_lt hp
        refine ⟨.int (p : Nat), rfl, .ref T, rfl, .ref T, l.length, rfl, hlen, _, _, rfl, rfl, ?_⟩
        refine ⟨.int (p : Nat), 0, _, rfl, .inl ⟨_, rfl⟩, _, rfl, iteFq (by show (!(decide ((0 : Int) ≤ (p : Nat)) && decide (((p : Nat) : Int) ≤ (l.length : Nat) - 1))) = false; rw [decide_eq_true (by omega), decide_eq_true (by omega)]; rfl) ?_⟩
        refine ⟨.ref T, rfl, .int (p : Nat), rfl, T, p, l, rfl, h1, hlt, hl, ?_⟩
        rw [hp]
        refine ⟨rfl, _, rfl, iteFq rfl ?_⟩
        refine ⟨.ref T, rfl, .int (d : Nat), rfl, .int (p : Nat), rfl, .ref T, rfl, .int (p : Nat), rfl, T, p, l, rfl, h1, hlt, hl, ?_⟩
        rw [hp]
        exact ⟨T, d, p, r, l, rfl, h1, hl, hp, fun U H2 b s2 nU eU hb => q U H2 b (s1.trans s2) (none_of_same s1 nU) eU hb⟩
      · have hx := hx.same s1
        rcases h with ⟨i, rfl, hi⟩ | ⟨b, rfl⟩
        · refine ⟨.int i, rfl, .ref T, rfl, .ref T, l.length, rfl, hlen, _, _, rfl, rfl, ?_⟩
          refine ⟨.int i, 0, _, rfl, .inl ⟨_, rfl⟩, _, rfl, ?_⟩
          by_cases hin : 0 ≤ i ∧ i ≤ (l.length : Nat) - 1
          · obtain ⟨i0, i1⟩ := hin
            refine iteFq (by show (!(decide ((0 : Int) ≤ i) && decide (i ≤ (l.length : Nat) - 1))) = false; rw [decide_eq_true i0, decide_eq_true i1]; rfl) ?_
            obtain ⟨p, rfl⟩ := Int.eq_ofNat_of_zero_le i0
            have hr0 : ruleL (l.drop p) = none := hi.elim (fun h => absurd h (by omega)) id
            refine ⟨.ref T, rfl, .int (p : Nat), rfl, T, p, l, rfl, h1, by omega, hl, ?_⟩
            rw [hr0]
            exact ⟨rfl, _, rfl, iteTq rfl (mkO_num (z := "place") (by decide) hx (Same.refl _))⟩
          · refine iteTq (by show (!(decide ((0 : Int) ≤ i) && decide (i ≤ (l.length : Nat) - 1))) = true; by_cases z0 : (0 : Int) ≤ i; (rw [decide_eq_false (fun z => hin ⟨z0, z⟩), Bool.and_false]; rfl); (rw [decide_eq_false z0]; rfl)) ?_
            exact mkO_num (z := "place") (by decide) hx (Same.refl _)
        · refine ⟨.bl b, rfl, .ref T, rfl, .ref T, l.length, rfl, hlen, _, _, rfl, rfl, ?_⟩
          refine ⟨.bl b, 0, _, rfl, .inr ⟨_, rfl⟩, _, rfl, iteTq rfl ?_⟩
          exact mkO_num (z := "place") (by decide) hx (Same.refl _)
    · exact .inr ⟨hb, hx⟩
    · exact .inl ⟨l, hrow, fun T H1 s1 nT h1 => ⟨z, rfl, z, "delay", rfl, by decide, hn, .inr ⟨hw, hx.same s1⟩⟩⟩
end
end K7

set_option Elab.async false
set_option linter.all false
set_option maxRecDepth 100000
set_option maxHeartbeats 4000000
namespace K7
open PySem PySem.Spec PyProof.Rows L2 GX NdefX
/-! ### the law's own defs -/
theorem scNums : FnScope ["script", "numbers", "place", "cell", "turned", "turn", "seed"] ["script"] (defScope sLNums) := ⟨rfl, rfl, rfl, by decide +kernel, rfl, by decide +kernel, by decide +kernel⟩
theorem scDraw : FnScope ["numbers", "many"] ["numbers", "many"] (defScope sLDraw) := ⟨rfl, rfl, rfl, by decide +kernel, rfl, by decide +kernel, by decide +kernel⟩
theorem scLInt : FnScope ["value"] ["value"] (defScope sLInt) := ⟨rfl, rfl, rfl, by decide +kernel, rfl, by decide +kernel, by decide +kernel⟩
theorem nts_len (l : List Nat) : (nts l).length = l.length := List.length_map _
/-! ### _law_numbers -/
def spLNums (K : PySem.W.Frag) : Sp := fun vs H Q _ => ∃ (a : Addr) (ns : List Int), vs = [.ref a] ∧ SqL K H a (ns.map V.int) ∧ ns.length ≤ 63 ∧
  ∀ D H' l, Same H H' → H D = none → H' D = some (.lst (nts l)) → l.length ≤ 4000 → Q (.ref D) H'
theorem nts_snoc (l : List Nat) {x : Int} (h : 0 ≤ x) : nts l ++ [.int x] = nts (l ++ [x.toNat]) := by
  unfold nts
  rw [List.map_append, List.map_singleton, Int.toNat_of_nonneg h]
theorem fmod_nn {a b : Int} (ha : 0 ≤ a) (hb : 0 < b) : 0 ≤ a.fmod b ∧ a.fmod b < b := ⟨Int.fmod_nonneg_of_pos a hb, Int.fmod_lt_of_pos a hb⟩
theorem fdiv_nn {a b : Int} (ha : 0 ≤ a) (hb : 0 < b) : 0 ≤ a.fdiv b ∧ a.fdiv b ≤ a := by
  rw [Int.fdiv_eq_ediv_of_nonneg a (by omega)]
  exact ⟨Int.ediv_nonneg ha (by omega), Int.ediv_le_self b ha⟩
section
variable {P : Program} {w : World} {K : PySem.W.Frag} {mg : Str → Option Value} {base : Heap}
theorem ok_lnums {f : Addr} {fd : FuncData} {k : Nat} (F : Fun K "_law_numbers" "_law_numbers" sLNums f fd) (B : Bl mg) : FnOk P w K mg base CX0 (k + 1) f fd ["script"] (spLNums K) := by
  refine F.ok scNums (fun vs H Q E h => ?_) (fun cdv A outer s H vs Q E hr h => ?_)
  · obtain ⟨a, ns, rfl, _⟩ := h
    rfl
  · obtain ⟨a, ns, rfl, hq, hl, q⟩ := h
    refine ⟨_, pss_cons (ps_set (i := 1) scNums.nd rfl (.inl rfl) (pe_lst pa_nil))
      (pss_cons (ps_for PassesOwn.never rfl (pi_range1 (by rfl) B.range (pa_cons (pe_callB (call_min2 rfl) (by rfl) B.min (by decide +kernel) (pa_cons (pe_callB call_len (by rfl) B.len PySem.boot_len (pa_cons (pv 0) pa_nil)) (pa_cons pe_int pa_nil))) pa_nil)) (pg_name (i := 2) scNums.nd rfl (.inl rfl))
        (pss_cons (ps_set (i := 3) scNums.nd rfl (.inl rfl) (pe_callTy call_int1 (by rfl) B.int (by decide +kernel) (pa_cons (pe_ix (r := rIxL K) ix_list (pv 0) (pv 2) (fun _ _ => rfl)) pa_nil)))
        (pss_cons (ps_set (i := 4) scNums.nd rfl (.inl rfl) pe_int)
        (pss_cons (ps_if (pt_cmpR op_lt (pv 3) pe_int (nomark _)) (pss_cons (ps_set (i := 3) scNums.nd rfl (.inl rfl) (pe_op op_sub pe_int (pv 3))) (pss_one (ps_set (i := 4) scNums.nd rfl (.inl rfl) pe_int))) pss_nil)
        (pss_one (ps_if (pt_cmpR op_ge (pv 3) (pe_op op_pow pe_int pe_int) (nomark _))
          (pss_one (ps_for PassesOwn.never rfl (pi_range1 (by rfl) B.range (pa_cons pe_int pa_nil)) (pg_name (i := 5) scNums.nd rfl (.inl rfl))
            (pss_one (ps_if (pt_cmpR op_gt (pv 3) pe_int (nomark _))
              (pss_cons (ps_expr (pe_bm PySem.F.plainAttrs_list PySem.F.slot_list_append PySem.F.type_list_append mt_append (pv 1) (pa_cons (pe_op op_modN (pe_callTy call_int1 (by rfl) B.int (by decide +kernel) (pa_cons (pv 3) pa_nil)) pe_int) pa_nil)))
              (pss_one (ps_set (i := 3) scNums.nd rfl (.inl rfl) (pe_op op_fdivN (pv 3) pe_int)))) pss_nil))))
          (pss_cons (ps_set (i := 6) scNums.nd rfl (.inl rfl) (pe_op op_modN (pe_callTy call_int1 (by rfl) B.int (by decide +kernel) (pa_cons (pe_op op_add (pe_op op_add (pe_op op_add (pe_mul (pv 3) pe_int) (pe_mul (pv 2) pe_int)) (pe_mul (pv 4) pe_int)) pe_int) pa_nil)) pe_int))
          (pss_one (ps_for PassesOwn.never rfl (pi_range1 (by rfl) B.range (pa_cons pe_int pa_nil)) (pg_name (i := 5) scNums.nd rfl (.inl rfl))
            (pss_cons (ps_set (i := 6) scNums.nd rfl (.inl rfl) (pe_op op_modN (pe_callTy call_int1 (by rfl) B.int (by decide +kernel) (pa_cons (pe_op op_add (pe_op op_add (pe_mul (pv 6) pe_int) (pe_mul (pe_callTy call_int1 (by rfl) B.int (by decide +kernel) (pa_cons (pe_op op_fdivN (pv 6) pe_int) pa_nil)) (pv 5))) pe_int) pa_nil)) pe_int))
            (pss_one (ps_expr (pe_bm PySem.F.plainAttrs_list PySem.F.slot_list_append PySem.F.type_list_append mt_append (pv 1) (pa_cons (pe_op op_modN (pe_callTy call_int1 (by rfl) B.int (by decide +kernel) (pa_cons (pe_op op_fdivN (pv 6) pe_int) pa_nil)) pe_int) pa_nil))))))))))))))
      (pss_cons (ps_expr (pe_bm0 PySem.F.plainAttrs_list PySem.F.slot_list_reverse PySem.F.type_list_reverse mt_reverse (pv 1)))
      (pss_one (ps_ret (pv 1))))), ?_⟩
    refine ⟨Nat.zero_le _, fun D nD => ?_⟩
    refine ⟨.ref a, rfl, .ref a, ns.length, rfl, .inl ⟨_, Same.seq (same_upd nD) hq, by rw [List.length_map]⟩, (ns.length : Int), 63, rfl, ?_⟩
    rw [if_neg (by omega)]
    refine ⟨(ns.length : Int), rfl, by omega, by omega, ?_⟩
    refine for_range (D := { nx := _, rt := Q }) (fun i σ H' => (∃ c2 c3 c4 c5 c6, σ = [some (.ref a), some (.ref D), c2, c3, c4, c5, c6]) ∧ Same H H' ∧ ∃ l, H' D = some (.lst (nts l)) ∧ l.length ≤ 45 * i) ?_ ?_ ?_
    · exact ⟨⟨_, _, _, _, _, rfl⟩, same_upd nD, [], upd_same, Nat.le_refl _⟩
    · rintro i σ H2 hi ⟨⟨c2, c3, c4, c5, c6, rfl⟩, s2, l, e2, hl2⟩
      have hi : i < ns.length := by
        have : i < ((ns.length : Int)).toNat := hi
        omega
      have ei : (0 : Int) + i = i := Int.zero_add _
      refine ⟨.ref a, rfl, _, rfl, a, _, _, .int ns[i], rfl, rfl, Same.seq s2 hq, by rw [ei]; refine atI_nat ?_; rw [List.getElem?_map, List.getElem?_eq_getElem hi]; rfl, .inl ⟨ns[i], rfl, ?_⟩⟩
      refine ⟨_, rfl, ns[i], 0, rfl, rfl, _, rfl, ?_⟩
      generalize ns[i] = n
      by_cases hneg : n < 0
      · rw [decide_eq_true hneg]
        refine iteT ⟨.int n, rfl, 0, n, rfl, rfl, ?_⟩
        have hc : (0 : Int) ≤ 0 - n := by omega
        refine ⟨.int (0 - n), rfl, 10, 18, rfl, rfl, ⟨by decide, by decide, by decide⟩, (0 - n), _, rfl, rfl, _, rfl, ?_⟩
        by_cases hbig : (10 : Int) ^ (18 : Int).toNat ≤ (0 - n)
        · rw [decide_eq_true hbig]
          refine iteT ⟨45, rfl, by decide, by decide, ?_⟩
          refine for_range (D := { nx := _, rt := Q }) (fun j σ H' => (∃ c' c5, σ = [some (.ref a), some (.ref D), some (.int (0 + (i : Int))), some (.int c'), some (.int 1), c5, c6] ∧ 0 ≤ c') ∧ Same H H' ∧ ∃ l, H' D = some (.lst (nts l)) ∧ l.length ≤ 45 * i + j) ?_ ?_ ?_
          · exact ⟨⟨_, _, rfl, hc⟩, s2, l, e2, hl2⟩
          · rintro j σ H3 hj ⟨⟨c', c5, rfl, hc'⟩, s3, l, e3, hl3⟩
            have hj : j < 45 := hj
            refine ⟨.int c', rfl, c', 0, rfl, rfl, _, rfl, ?_⟩
            by_cases hpos : (0 : Int) < c'
            · rw [decide_eq_true hpos]
              refine iteT ⟨.ref D, rfl, .inl ⟨rfl, _, sqL e3⟩, .int c', rfl, .inl ⟨c', rfl, c', 60, rfl, rfl, (by show (60 : Int) ≠ 0; decide), D, _, _, rfl, rfl, e3, by rw [nts_len, sizeLine_eq]; omega, .int c', rfl, c', 60, rfl, rfl, ⟨by decide, by decide⟩, ?_⟩⟩
              have hm := fmod_nn (a := c') (b := 60) hc' (by decide)
              refine ⟨⟨_, _, rfl, (fdiv_nn hc' (by decide)).1⟩, fun b o e => ?_, l ++ [(c'.fmod 60).toNat], ?_, ?_⟩
              · rw [upd_ne (ne_of_none e nD)]
                exact s3 _ _ e
              · rw [upd_same, nts_snoc _ hm.1]
              · rw [List.length_append, List.length_singleton]
                omega
            · rw [decide_eq_false hpos]
              exact iteF ⟨⟨_, _, rfl, hc'⟩, s3, l, e3, by omega⟩
          · rintro σ H3 ⟨⟨c', c5, rfl, hc'⟩, s3, l, e3, hl3⟩
            have hl3 : l.length ≤ 45 * i + 45 := hl3
            exact ⟨⟨_, _, _, _, _, rfl⟩, s3, l, e3, by omega⟩
        · rw [decide_eq_false hbig]
          have hbig : ¬ (1000000000000000000 : Int) ≤ (0 - n) := hbig
          refine iteF ⟨.int (0 - n), rfl, (0 - n), 16807, rfl, rfl, ⟨by omega, by omega⟩, _, rfl, _, 7919, rfl, rfl, ⟨by omega, by omega⟩, _, _, rfl, rfl, .int 1, rfl, 1, 104729, rfl, rfl, ⟨by omega, by omega⟩, _, _, rfl, rfl, _, _, rfl, rfl, .inl ⟨_, rfl, _, 2147483629, rfl, rfl, (by show (2147483629 : Int) ≠ 0; decide), 7, rfl, by decide, by decide, ?_⟩⟩
          have hs := fmod_nn (a := (0 - n) * 16807 + (0 + (i : Int)) * 7919 + 1 * 104729 + 11) (b := 2147483629) (by omega) (by decide)
          refine for_range (D := { nx := _, rt := Q }) (fun j σ H' => (∃ c5 sd, σ = [some (.ref a), some (.ref D), some (.int (0 + (i : Int))), some (.int (0 - n)), some (.int 1), c5, some (.int sd)] ∧ 0 ≤ sd ∧ sd < 2147483629) ∧ Same H H' ∧ ∃ l, H' D = some (.lst (nts l)) ∧ l.length ≤ 45 * i + j) ?_ ?_ ?_
          · exact ⟨⟨_, _, rfl, hs⟩, s2, l, e2, hl2⟩
          · rintro j σ H3 hj ⟨⟨c5, sd, rfl, h0, h1⟩, s3, l, e3, hl3⟩
            have hj : j < 7 := hj
            have hd := fdiv_nn (a := sd) (b := 1000) h0 (by decide)
            refine ⟨.int sd, rfl, sd, 39373, rfl, rfl, ⟨by omega, by omega⟩, .int sd, rfl, sd, 1000, rfl, rfl, ⟨by decide, by decide⟩, .inl ⟨_, rfl, _, rfl, _, _, rfl, rfl, ⟨by omega, by omega⟩, _, _, rfl, rfl, _, _, rfl, rfl, .inl ⟨_, rfl, _, 2147483629, rfl, rfl, (by show (2147483629 : Int) ≠ 0; decide), ?_⟩⟩⟩
            have hp : 0 ≤ sd.fdiv 1000 * (0 + (j : Int)) := Int.mul_nonneg hd.1 (by omega)
            have hs2 := fmod_nn (a := sd * 39373 + sd.fdiv 1000 * (0 + (j : Int)) + 7919) (b := 2147483629) (by omega) (by decide)
            have hd2 := fdiv_nn (a := (sd * 39373 + sd.fdiv 1000 * (0 + (j : Int)) + 7919).fmod 2147483629) (b := 7) hs2.1 (by decide)
            have hm2 := fmod_nn (a := ((sd * 39373 + sd.fdiv 1000 * (0 + (j : Int)) + 7919).fmod 2147483629).fdiv 7) (b := 55440) hd2.1 (by decide)
            refine ⟨.ref D, rfl, .inl ⟨rfl, _, sqL e3⟩, _, rfl, _, 7, rfl, rfl, ⟨by decide, by decide⟩, .inl ⟨_, rfl, _, 55440, rfl, rfl, (by show (55440 : Int) ≠ 0; decide), D, _, _, rfl, rfl, e3, by rw [nts_len, sizeLine_eq]; omega, ?_⟩⟩
            refine ⟨⟨_, _, rfl, hs2⟩, fun b o e => ?_, l ++ [((((sd * 39373 + sd.fdiv 1000 * (0 + (j : Int)) + 7919).fmod 2147483629).fdiv 7).fmod 55440).toNat], ?_, ?_⟩
            · rw [upd_ne (ne_of_none e nD)]
              exact s3 _ _ e
            · rw [upd_same]
              exact congrArg (fun l => some (HO.lst l)) (nts_snoc _ hm2.1)
            · rw [List.length_append, List.length_singleton]
              omega
          · rintro σ H3 ⟨⟨c5, sd, rfl, h0, h1⟩, s3, l, e3, hl3⟩
            have hl3 : l.length ≤ 45 * i + 7 := hl3
            exact ⟨⟨_, _, _, _, _, rfl⟩, s3, l, e3, by omega⟩
      · rw [decide_eq_false hneg]
        refine iteF ?_
        have hc : (0 : Int) ≤ n := by omega
        refine ⟨.int n, rfl, 10, 18, rfl, rfl, ⟨by decide, by decide, by decide⟩, n, _, rfl, rfl, _, rfl, ?_⟩
        by_cases hbig : (10 : Int) ^ (18 : Int).toNat ≤ n
        · rw [decide_eq_true hbig]
          refine iteT ⟨45, rfl, by decide, by decide, ?_⟩
          refine for_range (D := { nx := _, rt := Q }) (fun j σ H' => (∃ c' c5, σ = [some (.ref a), some (.ref D), some (.int (0 + (i : Int))), some (.int c'), some (.int 0), c5, c6] ∧ 0 ≤ c') ∧ Same H H' ∧ ∃ l, H' D = some (.lst (nts l)) ∧ l.length ≤ 45 * i + j) ?_ ?_ ?_
          · exact ⟨⟨_, _, rfl, hc⟩, s2, l, e2, hl2⟩
          · rintro j σ H3 hj ⟨⟨c', c5, rfl, hc'⟩, s3, l, e3, hl3⟩
            have hj : j < 45 := hj
            refine ⟨.int c', rfl, c', 0, rfl, rfl, _, rfl, ?_⟩
            by_cases hpos : (0 : Int) < c'
            · rw [decide_eq_true hpos]
              refine iteT ⟨.ref D, rfl, .inl ⟨rfl, _, sqL e3⟩, .int c', rfl, .inl ⟨c', rfl, c', 60, rfl, rfl, (by show (60 : Int) ≠ 0; decide), D, _, _, rfl, rfl, e3, by rw [nts_len, sizeLine_eq]; omega, .int c', rfl, c', 60, rfl, rfl, ⟨by decide, by decide⟩, ?_⟩⟩
              have hm := fmod_nn (a := c') (b := 60) hc' (by decide)
              refine ⟨⟨_, _, rfl, (fdiv_nn hc' (by decide)).1⟩, fun b o e => ?_, l ++ [(c'.fmod 60).toNat], ?_, ?_⟩
              · rw [upd_ne (ne_of_none e nD)]
                exact s3 _ _ e
              · rw [upd_same, nts_snoc _ hm.1]
              · rw [List.length_append, List.length_singleton]
                omega
            · rw [decide_eq_false hpos]
              exact iteF ⟨⟨_, _, rfl, hc'⟩, s3, l, e3, by omega⟩
          · rintro σ H3 ⟨⟨c', c5, rfl, hc'⟩, s3, l, e3, hl3⟩
            have hl3 : l.length ≤ 45 * i + 45 := hl3
            exact ⟨⟨_, _, _, _, _, rfl⟩, s3, l, e3, by omega⟩
        · rw [decide_eq_false hbig]
          have hbig : ¬ (1000000000000000000 : Int) ≤ n := hbig
          refine iteF ⟨.int n, rfl, n, 16807, rfl, rfl, ⟨by omega, by omega⟩, _, rfl, _, 7919, rfl, rfl, ⟨by omega, by omega⟩, _, _, rfl, rfl, .int 0, rfl, 0, 104729, rfl, rfl, ⟨by omega, by omega⟩, _, _, rfl, rfl, _, _, rfl, rfl, .inl ⟨_, rfl, _, 2147483629, rfl, rfl, (by show (2147483629 : Int) ≠ 0; decide), 7, rfl, by decide, by decide, ?_⟩⟩
          have hs := fmod_nn (a := n * 16807 + (0 + (i : Int)) * 7919 + 0 * 104729 + 11) (b := 2147483629) (by omega) (by decide)
          refine for_range (D := { nx := _, rt := Q }) (fun j σ H' => (∃ c5 sd, σ = [some (.ref a), some (.ref D), some (.int (0 + (i : Int))), some (.int n), some (.int 0), c5, some (.int sd)] ∧ 0 ≤ sd ∧ sd < 2147483629) ∧ Same H H' ∧ ∃ l, H' D = some (.lst (nts l)) ∧ l.length ≤ 45 * i + j) ?_ ?_ ?_
          · exact ⟨⟨_, _, rfl, hs⟩, s2, l, e2, hl2⟩
          · rintro j σ H3 hj ⟨⟨c5, sd, rfl, h0, h1⟩, s3, l, e3, hl3⟩
            have hj : j < 7 := hj
            have hd := fdiv_nn (a := sd) (b := 1000) h0 (by decide)
            refine ⟨.int sd, rfl, sd, 39373, rfl, rfl, ⟨by omega, by omega⟩, .int sd, rfl, sd, 1000, rfl, rfl, ⟨by decide, by decide⟩, .inl ⟨_, rfl, _, rfl, _, _, rfl, rfl, ⟨by omega, by omega⟩, _, _, rfl, rfl, _, _, rfl, rfl, .inl ⟨_, rfl, _, 2147483629, rfl, rfl, (by show (2147483629 : Int) ≠ 0; decide), ?_⟩⟩⟩
            have hp : 0 ≤ sd.fdiv 1000 * (0 + (j : Int)) := Int.mul_nonneg hd.1 (by omega)
            have hs2 := fmod_nn (a := sd * 39373 + sd.fdiv 1000 * (0 + (j : Int)) + 7919) (b := 2147483629) (by omega) (by decide)
            have hd2 := fdiv_nn (a := (sd * 39373 + sd.fdiv 1000 * (0 + (j : Int)) + 7919).fmod 2147483629) (b := 7) hs2.1 (by decide)
            have hm2 := fmod_nn (a := ((sd * 39373 + sd.fdiv 1000 * (0 + (j : Int)) + 7919).fmod 2147483629).fdiv 7) (b := 55440) hd2.1 (by decide)
            refine ⟨.ref D, rfl, .inl ⟨rfl, _, sqL e3⟩, _, rfl, _, 7, rfl, rfl, ⟨by decide, by decide⟩, .inl ⟨_, rfl, _, 55440, rfl, rfl, (by show (55440 : Int) ≠ 0; decide), D, _, _, rfl, rfl, e3, by rw [nts_len, sizeLine_eq]; omega, ?_⟩⟩
            refine ⟨⟨_, _, rfl, hs2⟩, fun b o e => ?_, l ++ [((((sd * 39373 + sd.fdiv 1000 * (0 + (j : Int)) + 7919).fmod 2147483629).fdiv 7).fmod 55440).toNat], ?_, ?_⟩
            · rw [upd_ne (ne_of_none e nD)]
              exact s3 _ _ e
            · rw [upd_same]
              exact congrArg (fun l => some (HO.lst l)) (nts_snoc _ hm2.1)
            · rw [List.length_append, List.length_singleton]
              omega
          · rintro σ H3 ⟨⟨c5, sd, rfl, h0, h1⟩, s3, l, e3, hl3⟩
            have hl3 : l.length ≤ 45 * i + 7 := hl3
            exact ⟨⟨_, _, _, _, _, rfl⟩, s3, l, e3, by omega⟩
    · rintro σ H2 ⟨⟨c2, c3, c4, c5, c6, rfl⟩, s2, l, e2, hl2⟩
      have hl2 : l.length ≤ 45 * ((ns.length : Int)).toNat := hl2
      refine ⟨.ref D, rfl, .inl ⟨rfl, _, sqL e2⟩, D, _, rfl, rfl, e2, .ref D, rfl, q D _ l.reverse (fun b o e => ?_) nD ?_ ?_⟩
      · rw [upd_ne (ne_of_none e nD)]
        exact s2 _ _ e
      · rw [upd_same]
        unfold nts
        rw [List.map_reverse]
      · rw [List.length_reverse]
        omega
end
end K7

set_option Elab.async false
set_option linter.all false
set_option maxRecDepth 100000
set_option maxHeartbeats 4000000
namespace K7
open PySem PySem.Spec PyProof.Rows L2 GX NdefX
/-! ### _law_draw -/
def NumsAt (H : Hp) (a : Addr) : Prop := ∃ l : List Nat, H a = some (.lst (nts l)) ∧ l.length ≤ 4000
def SameB (a : Addr) (H H' : Hp) : Prop := ∀ b o, b ≠ a → H b = some o → H' b = some o
theorem SameB.trans {a : Addr} {H1 H2 H3 : Hp} (h : SameB a H1 H2) (k : SameB a H2 H3) : SameB a H1 H3 := fun b o n e => k b o n (h b o n e)
theorem SameB.refl {a : Addr} {H : Hp} : SameB a H H := fun _ _ _ e => e
theorem sameB_of {a : Addr} {H1 H2 : Hp} (h : Same H1 H2) : SameB a H1 H2 := fun b o _ e => h b o e
theorem NumsAt.same {H H' : Hp} {a : Addr} (h : NumsAt H a) (s : Same H H') : NumsAt H' a := by
  obtain ⟨l, e, n⟩ := h
  exact ⟨l, s _ _ e, n⟩
def spDraw : Sp := fun vs H Q _ => ∃ (a : Addr) (m : Nat), vs = [.ref a, .int m] ∧ 1 ≤ m ∧ NumsAt H a ∧ ∀ (H' : Hp) (r : Nat), r < m → SameB a H H' → NumsAt H' a → Q (.int (r : Nat)) H'
def spInt : Sp := fun vs H Q _ => ∃ i : Int, vs = [.int i] ∧ Q (.bl true) H
section
variable {P : Program} {w : World} {K : PySem.W.Frag} {mg : Str → Option Value} {base : Heap}
theorem ok_draw {f : Addr} {fd : FuncData} {k : Nat} (F : Fun K "_law_draw" "_law_draw" sLDraw f fd) (B : Bl mg) : FnOk P w K mg base CX0 (k + 1) f fd ["numbers", "many"] spDraw := by
  refine F.ok scDraw (fun vs H Q E h => ?_) (fun cdv A outer s H vs Q E hr h => ?_)
  · obtain ⟨a, m, rfl, _⟩ := h
    rfl
  · obtain ⟨a, m, rfl, hm, ⟨l, ea, hl⟩, q⟩ := h
    refine ⟨_, pss_cons (ps_if (pt_cmpR op_eq (pe_callB call_len (by rfl) B.len PySem.boot_len (pa_cons (pv 0) pa_nil)) pe_int (nomark _)) (pss_one (ps_ret pe_int)) pss_nil)
      (pss_one (ps_ret (pe_op op_modN (pe_callTy call_int1 (by rfl) B.int (by decide +kernel) (pa_cons (pe_bm0 PySem.F.plainAttrs_list PySem.F.slot_list_pop PySem.F.type_list_pop mt_pop (pv 0)) pa_nil)) (pv 1)))), ?_⟩
    refine ⟨.ref a, rfl, .ref a, l.length, rfl, .inl ⟨_, sqL ea, (nts_len l).symm⟩, rfl, _, rfl, ?_⟩
    by_cases h0 : l.length = 0
    · rw [decide_eq_true (by rw [h0]; rfl)]
      exact iteT (q H 0 hm SameB.refl ⟨l, ea, hl⟩)
    rw [decide_eq_false (fun e => h0 (by have := V.int.inj e; omega))]
    have hi : l.length - 1 < l.length := by omega
    refine iteF ⟨.ref a, rfl, .inl ⟨rfl, _, sqL ea⟩, a, _, .int (l[l.length - 1]), rfl, rfl, ea, ?_, .inl ⟨_, rfl, .int m, rfl, _, m, rfl, rfl, (by show (m : Int) ≠ 0; omega), ?_⟩⟩
    · rw [nts_len]
      unfold nts
      rw [List.getElem?_map, List.getElem?_eq_getElem hi]
      rfl
    · have hf := fmod_nn (a := ((l[l.length - 1] : Nat) : Int)) (b := m) (by omega) (by omega)
      have z := q (upd H a (.lst (nts l).dropLast)) (((l[l.length - 1] : Nat) : Int).fmod m).toNat (by omega) (fun b o n e => by rw [upd_ne n]; exact e) ⟨l.dropLast, by rw [upd_same]; unfold nts; rw [List.map_dropLast], by rw [List.length_dropLast]; omega⟩
      rw [Int.toNat_of_nonneg hf.1] at z
      exact z
theorem ok_lint {f : Addr} {fd : FuncData} {k : Nat} (F : Fun K "_law_int" "_law_int" sLInt f fd) (B : Bl mg) : FnOk P w K mg base CX0 (k + 1) f fd ["value"] spInt := by
  refine F.ok scLInt (fun vs H Q E h => ?_) (fun cdv A outer s H vs Q E hr h => ?_)
  · obtain ⟨i, rfl, _⟩ := h
    rfl
  · obtain ⟨i, rfl, q⟩ := h
    refine ⟨_, pss_one (ps_ret (pe_and (pe_callB call_isi (by rfl) B.isi (by decide +kernel) (pa_cons (pv 0) (pa_cons (pe_bltn (v := .ty "int") (u := .type "int") (by rfl) B.int (by decide +kernel) rfl) pa_nil)))
      (pe_one (pe_not (pe_callB call_isi (by rfl) B.isi (by decide +kernel) (pa_cons (pv 0) (pa_cons (pe_bltn (v := .ty "bool") (u := .type "bool") (by rfl) B.bool (by decide +kernel) rfl) pa_nil))))))), ?_⟩
    refine ⟨_, rfl, _, _, .type "int", _, true, rfl, .ty "int", .base (.int i), kit_ty (by decide +kernel), true, rfl, iteT ?_⟩
    exact ⟨_, rfl, _, _, .type "int", _, false, rfl, .ty "bool", .base (.int i), kit_ty (by decide +kernel), _, rfl, q⟩
end
end K7

set_option Elab.async false
set_option linter.all false
set_option maxRecDepth 100000
set_option maxHeartbeats 4000000
namespace K7
open PySem PySem.Spec PyProof.Rows L2 GX NdefX K24
theorem scLBitsOk : FnScope ["row", "many", "bit"] ["row", "many"] (defScope sLBitsOk) := ⟨rfl, rfl, rfl, by decide +kernel, rfl, by decide +kernel, by decide +kernel⟩
theorem scLClocks : FnScope ["numbers", "many", "most", "turning", "kinds", "side", "row", "k"] ["numbers"] (defScope sLClocks) := ⟨rfl, rfl, rfl, by decide +kernel, rfl, by decide +kernel, by decide +kernel⟩
theorem scLRuns : FnScope ["numbers", "bits", "bit", "longest", "turn"] ["numbers"] (defScope sLRuns) := ⟨rfl, rfl, rfl, by decide +kernel, rfl, by decide +kernel, by decide +kernel⟩
theorem scLOut : FnScope ["row", "delay", "bits", "found", "kind", "number", "wanted", "run", "worked", "bit"] ["row", "delay", "bits"] (defScope sLOut) := ⟨rfl, rfl, rfl, by decide +kernel, rfl, by decide +kernel, by decide +kernel⟩
/-! ### _law_bits_ok -/
def spLBits : Sp := fun vs H Q _ => ∃ (a : Addr) (xs : List Bool), vs = [.ref a, .int (xs.length : Nat)] ∧ H a = some (.tup (bsV xs)) ∧ ∀ H', Same H H' → Q (.bl true) H'
section
variable {P : Program} {w : World} {K : PySem.W.Frag} {mg : Str → Option Value} {base : Heap}
theorem ok_lbits {f fI : Addr} {fd fdI : FuncData} {k : Nat} (F : Fun K "_law_bits_ok" "_law_bits_ok" sLBitsOk f fd) (B : Bl mg) (FI : Fun K "_law_int" "_law_int" sLInt fI fdI) (bI : Binds K fdI ["value"] []) (gI : mg "_law_int" = some (.ref fI)) : FnOk P w K mg base CX0 (k + 2) f fd ["row", "many"] spLBits := by
  have GI : FnOk P w K mg base CX0 (k + 1) fI fdI ["value"] spInt := ok_lint FI B
  refine F.ok scLBitsOk (fun vs H Q E h => ?_) (fun cdv A outer s H vs Q E hr h => ?_)
  · obtain ⟨a, xs, rfl, _⟩ := h
    rfl
  · obtain ⟨a, xs, rfl, ha, q⟩ := h
    refine ⟨_, pss_cons (ps_if (PW.pt (pw_or (pt_not (pt_val (pe_callB call_isi (by rfl) B.isi (by decide +kernel) (pa_cons (pv 0) (pa_cons (pe_bltn (v := .ty "tuple") (u := .type "tuple") (by rfl) B.tuple (by decide +kernel) rfl) pa_nil)))))
        (pw_or1 (pt_cmpR op_ne (pe_callB call_len (by rfl) B.len PySem.boot_len (pa_cons (pv 0) pa_nil)) (pv 1) (nomark _))))) (pss_one (ps_ret pe_bl)) pss_nil)
      (pss_cons (ps_for PassesOwn.never rfl (pi_seq (pv 0)) (pg_name (i := 2) scLBitsOk.nd rfl (Or.inl rfl))
        (pss_one (ps_if (PW.pt (pw_or (pt_not (pt_val (pe_call GI hr (by rfl) gI FI.kp bI .nil pass0 (pa_cons (pv 2) pa_nil)))) (pw_or (pt_cmpR op_lt (pv 2) pe_int (nomark _)) (pw_or1 (pt_cmpR op_gt (pv 2) pe_int (nomark _)))))) (pss_one (ps_ret pe_bl)) pss_nil)))
      (pss_one (ps_ret pe_bl))), ?_⟩
    refine ⟨_, rfl, _, _, .type "tuple", _, true, rfl, .ty "tuple", .base (.tup ha), kit_ty (by decide +kernel), true, rfl, iteF ?_⟩
    refine ⟨.ref a, rfl, .ref a, xs.length, rfl, lenV_sq (.inr ha) (bsV_len xs), .int (xs.length : Nat), rfl, rfl, _, rfl, iteFq (by rw [decide_eq_true rfl]; rfl) ?_⟩
    refine ⟨.ref a, rfl, a, bsV xs, rfl, forSeq (D := { nx := _, rt := Q }) (fun i σ H' => (∃ c, σ = [some (.ref a), some (.int (xs.length : Nat)), c]) ∧ Same H H') (.inr ha) ⟨⟨_, rfl⟩, Same.refl _⟩ (fun i σ H' o p e => p.2 _ _ e) ?_ ?_⟩
    · rintro i y σ H2 hy ⟨⟨c, rfl⟩, s2⟩
      obtain ⟨b, hb, rfl⟩ := bsV_get hy
      refine ⟨.int (b2n b : Nat), rfl, _, rfl, _, rfl, iteF ?_⟩
      have h2 : b2n b ≤ 1 := by cases b <;> decide
      refine ⟨.int (b2n b : Nat), rfl, _, _, rfl, rfl, _, rfl, iteFq (decide_eq_false (by omega)) ?_⟩
      exact ⟨.int (b2n b : Nat), rfl, _, _, rfl, rfl, _, rfl, iteFq (decide_eq_false (by omega)) ⟨⟨_, rfl⟩, s2⟩⟩
    · rintro σ H2 ⟨⟨c, rfl⟩, s2⟩
      exact q H2 s2
end
end K7

set_option Elab.async false
set_option linter.all false
set_option maxRecDepth 100000
set_option maxHeartbeats 4000000
namespace K7
open PySem PySem.Spec PyProof.Rows L2 GX NdefX K24
theorem nums_ne {H : Hp} {a l : Addr} (n : NumsAt H a) (h : H l = none) : l ≠ a := fun z => by
  obtain ⟨x, e, _⟩ := n
  rw [z, e] at h
  cases h
theorem none_of_b {a l : Addr} {H H' : Hp} (s : SameB a H H') (n : NumsAt H' a) (h : H' l = none) : H l = none := by
  cases e : H l with
  | none => rfl
  | some o =>
    rw [s _ _ (nums_ne n h) e] at h
    cases h
theorem nums_upd {H : Hp} {a F : Addr} {o : HO} (n : NumsAt H a) (h : F ≠ a) : NumsAt (upd H F o) a := by
  obtain ⟨l, e, n⟩ := n
  exact ⟨l, by rw [upd_ne h.symm]; exact e, n⟩
theorem clks_b {a : Addr} {H H' : Hp} {ts : List V} {l : List Clk} (n : NumsAt H a) (s : SameB a H H') (p : ClksT H ts l) : ClksT H' ts l := by
  obtain ⟨ns, e, _⟩ := n
  exact paired_imp (fun x c ⟨b, e1, h⟩ => ⟨b, e1, s _ _ (fun z => by rw [z, e] at h; cases h) h⟩) p
/-- a choice out of a list of numbers -/
theorem pick {K : PySem.W.Frag} {H : Hp} {L : Addr} {ms : List Nat} {r : Nat} {Q : VK} (e : H L = some (.lst (nts ms))) (hr : r < ms.length) (q : ∀ v, v ∈ ms → Q (.int (v : Nat)) H) : rIxL K (.ref L) (.int (r : Nat)) H Q := by
  refine ⟨L, _, r, .int (ms[r] : Nat), rfl, rfl, sqL e, atI_nat ?_, q _ (List.getElem_mem hr)⟩
  unfold nts
  rw [List.getElem?_map, List.getElem?_eq_getElem hr]
  rfl
def spClocks : Sp := fun vs H Q _ => ∃ (a : Addr), vs = [.ref a] ∧ NumsAt H a ∧ ∀ T H' l, SameB a H H' → NumsAt H' a → H T = none → RowT H' T l → l.length ≤ 8 → (∀ c ∈ l, c.2 ≤ 60) → Q (.ref T) H'
section
variable {P : Program} {w : World} {K : PySem.W.Frag} {mg : Str → Option Value} {base : Heap}
theorem ok_clocks {f fD : Addr} {fd fdD : FuncData} {k : Nat} (F : Fun K "_law_clocks" "_law_clocks" sLClocks f fd) (B : Bl mg) (FD : Fun K "_law_draw" "_law_draw" sLDraw fD fdD) (bD : Binds K fdD ["numbers", "many"] []) (gD : mg "_law_draw" = some (.ref fD)) : FnOk P w K mg base CX0 (k + 2) f fd ["numbers"] spClocks := by
  have GD : FnOk P w K mg base CX0 (k + 1) fD fdD ["numbers", "many"] spDraw := ok_draw FD B
  refine F.ok scLClocks (fun vs H Q E h => ?_) (fun cdv A outer s H vs Q E hr h => ?_)
  · obtain ⟨a, rfl, _⟩ := h
    rfl
  · obtain ⟨a, rfl, hn, q⟩ := h
    refine ⟨_, pss_cons (ps_set (i := 1) scLClocks.nd rfl (.inl rfl) (pe_ix (r := rIxL K) ix_list (pe_lst (pa_cons pe_int (pa_cons pe_int (pa_cons pe_int (pa_cons pe_int (pa_cons pe_int (pa_cons pe_int (pa_cons pe_int (pa_cons pe_int (pa_cons pe_int (pa_cons pe_int (pa_cons pe_int (pa_cons pe_int pa_nil))))))))))))) (pe_call GD hr (by rfl) gD FD.kp bD .nil pass0 (pa_cons (pv 0) (pa_cons pe_int pa_nil))) (fun _ _ => rfl)))
      (pss_cons (ps_set (i := 2) scLClocks.nd rfl (.inl rfl) (pe_ix (r := rIxL K) ix_list (pe_lst (pa_cons pe_int (pa_cons pe_int (pa_cons pe_int (pa_cons pe_int pa_nil))))) (pe_call GD hr (by rfl) gD FD.kp bD .nil pass0 (pa_cons (pv 0) (pa_cons pe_int pa_nil))) (fun _ _ => rfl)))
      (pss_cons (ps_set (i := 3) scLClocks.nd rfl (.inl rfl) (pe_call GD hr (by rfl) gD FD.kp bD .nil pass0 (pa_cons (pv 0) (pa_cons pe_int pa_nil))))
      (pss_cons (ps_set (i := 4) scLClocks.nd rfl (.inl rfl) (pe_lst (pa_cons pe_str (pa_cons pe_str pa_nil))))
      (pss_cons (ps_set (i := 5) scLClocks.nd rfl (.inl rfl) (pe_call GD hr (by rfl) gD FD.kp bD .nil pass0 (pa_cons (pv 0) (pa_cons pe_int pa_nil))))
      (pss_cons (ps_set (i := 6) scLClocks.nd rfl (.inl rfl) (pe_lst pa_nil))
      (pss_cons (ps_for PassesOwn.never rfl (pi_range1 (by rfl) B.range (pa_cons (pv 1) pa_nil)) (pg_name (i := 7) scLClocks.nd rfl (.inl rfl))
        (pss_cons (ps_if (pt_cmpR op_eq (pv 3) pe_int (nomark _)) (pss_one (ps_set (i := 5) scLClocks.nd rfl (.inl rfl) (pe_call GD hr (by rfl) gD FD.kp bD .nil pass0 (pa_cons (pv 0) (pa_cons pe_int pa_nil))))) pss_nil)
        (pss_cons (ps_expr (pe_bm PySem.F.plainAttrs_list PySem.F.slot_list_append PySem.F.type_list_append mt_append (pv 6) (pa_cons (pe_tup (pa_cons (pe_ix (r := rIxL K) ix_list (pv 4) (pv 5) (fun _ _ => rfl)) (pa_cons (pe_call GD hr (by rfl) gD FD.kp bD .nil pass0 (pa_cons (pv 0) (pa_cons (pv 2) pa_nil))) pa_nil))) pa_nil)))
        (pss_one (ps_set (i := 5) scLClocks.nd rfl (.inl rfl) (pe_op op_sub pe_int (pv 5)))))))
      (pss_one (ps_ret (pe_callTy (T := "tuple") (r := fun xs H Q => ∃ p ys, xs = [V.ref p] ∧ ((SqL K H p ys ∧ ∀ l, H l = none → Q (.ref l) (upd H l (.tup ys))) ∨ (SqT K H p ys ∧ Q (.ref p) H))) call_tuple_of (by rfl) B.tuple (by decide +kernel) (pa_cons (pv 6) pa_nil)))))))))), ?_⟩
    refine ⟨by show 12 ≤ sizeLine; decide, fun M1 nM1 => ?_⟩
    refine ⟨.ref a, rfl, a, 12, rfl, by decide, hn.same (same_upd nM1), fun H1 r1 hr1 s1 n1 => ?_⟩
    have b1 : SameB a H H1 := (sameB_of (same_upd nM1)).trans s1
    refine pick (ms := [1, 2, 3, 3, 4, 5, 6, 7, 8, 3, 4, 0]) (s1 _ _ (nums_ne hn nM1) upd_same) hr1 fun m hm => ?_
    have hm8 : m ≤ 8 := by revert hm; revert m; decide
    refine ⟨by show 4 ≤ sizeLine; decide, fun M2 nM2 => ?_⟩
    refine ⟨.ref a, rfl, a, 4, rfl, by decide, n1.same (same_upd nM2), fun H2 r2 hr2 s2 n2 => ?_⟩
    have b2 : SameB a H H2 := b1.trans ((sameB_of (same_upd nM2)).trans s2)
    refine pick (ms := [5, 13, 61, 4]) (s2 _ _ (nums_ne n1 nM2) upd_same) hr2 fun mo hmo => ?_
    have hmo : 1 ≤ mo ∧ mo ≤ 61 := by revert hmo; revert mo; decide
    refine ⟨.ref a, rfl, a, 3, rfl, by decide, n2, fun H3 tn htn s3 n3 => ?_⟩
    have b3 := b2.trans s3
    refine ⟨by show 2 ≤ sizeLine; decide, fun L nL => ?_⟩
    have hLa := nums_ne n3 nL
    have b4 := b3.trans (sameB_of (same_upd nL (o := .lst [.str "on", .str "off"])))
    refine ⟨.ref a, rfl, a, 2, rfl, by decide, n3.same (same_upd nL), fun H5 sd hsd s5 n5 => ?_⟩
    have b5 := b4.trans s5
    have eL5 := s5 _ _ hLa upd_same
    refine ⟨Nat.zero_le _, fun D nD => ?_⟩
    have nDH : H D = none := none_of_b b5 n5 nD
    have hDa := nums_ne n5 nD
    have hLD : L ≠ D := ne_of_none eL5 nD
    refine ⟨.int (m : Nat), rfl, m, rfl, by omega, by omega, ?_⟩
    refine for_range (D := { nx := _, rt := Q }) (fun i σ H' => (∃ (sd : Nat) (c : Option V), sd < 2 ∧ σ = [some (.ref a), some (.int (m : Nat)), some (.int (mo : Nat)), some (.int (tn : Nat)), some (.ref L), some (.int (sd : Nat)), some (.ref D), c]) ∧ SameB a H H' ∧ NumsAt H' a ∧ H' L = some (.lst [.str "on", .str "off"]) ∧ ∃ ts l, H' D = some (.lst ts) ∧ ClksT H' ts l ∧ l.length = i ∧ ∀ c ∈ l, c.2 ≤ 60) ?_ ?_ ?_
    · refine ⟨⟨sd, none, hsd, rfl⟩, b5.trans (sameB_of (same_upd nD)), n5.same (same_upd nD), ?_, [], [], upd_same, .nil, rfl, fun _ h => absurd h (List.not_mem_nil)⟩
      rw [upd_ne hLD]
      exact eL5
    · rintro i σ H6 hi ⟨⟨sd, c, hsd, rfl⟩, b6, n6, eL, ts, l, eD, pt, hl, hc⟩
      have hi : i < m := by
        have : i < ((m : Int)).toNat := hi
        omega
      refine ⟨.int (tn : Nat), rfl, rfl, _, rfl, ?_⟩
      by_cases h0 : tn = 0
      · refine iteTq (by rw [h0]; rfl) ⟨.ref a, rfl, a, 2, rfl, by decide, n6, fun H7 sd hsd s7 n7 => ?_⟩
        have eL7 := s7 _ _ hLa eL
        have eD7 := s7 _ _ hDa eD
        refine ⟨.ref D, rfl, .inl ⟨rfl, _, sqL eD7⟩, .ref L, rfl, .int (sd : Nat), rfl, L, [.str "on", .str "off"], sd, .str (kn (sd == 0)), rfl, rfl, sqL eL7, atI_nat (by rcases (by omega : sd = 0 ∨ sd = 1) with e | e <;> subst e <;> rfl), .ref a, rfl, .int (mo : Nat), rfl, a, mo, rfl, by omega, n7, fun H8 r hr8 s8 n8 => ?_⟩
        have eL8 := s8 _ _ hLa eL7
        have eD8 := s8 _ _ hDa eD7
        have b8 := b6.trans (s7.trans s8)
        have p8 := clks_b n7 s8 (clks_b n6 s7 pt)
        refine ⟨by show 2 ≤ sizeLine; decide, fun U nU => ?_⟩
        have hUa := nums_ne n8 nU
        have hUD : D ≠ U := ne_of_none eD8 nU
        have hUL : L ≠ U := ne_of_none eL8 nU
        have sU := same_upd nU (o := .tup [.str (kn (sd == 0)), .int (r : Nat)])
        have lts : ts.length = l.length := pt.length
        refine ⟨D, ts, _, rfl, rfl, sU _ _ eD8, by rw [sizeLine_eq]; omega, ?_⟩
        have e1 : (1 : Int) - (sd : Nat) = ((1 - sd : Nat) : Int) := by omega
        refine ⟨.int (sd : Nat), rfl, 1, _, rfl, rfl, ?_⟩
        refine ⟨⟨1 - sd, some (.int ((0 : Int) + (i : Nat))), by omega, by rw [← e1]; rfl⟩, fun b o n e => ?_, nums_upd (nums_upd n8 hUa) hDa, ?_, _, l ++ [(sd == 0, r)], upd_same, ?_, by rw [List.length_append, hl]; rfl, fun c hc' => ?_⟩
        · rw [upd_ne (ne_of_none e nDH)]
          exact sU _ _ (b8 _ _ n e)
        · rw [upd_ne hLD]
          exact sU _ _ eL8
        · exact paired_snoc (clks_upd (sU _ _ eD8) (p8.same sU)) (clk_upd (sU _ _ eD8) ⟨U, rfl, upd_same⟩)
        · rcases List.mem_append.mp hc' with h | h
          · exact hc c h
          · rw [List.mem_singleton.mp h]
            show r ≤ 60
            omega
      · refine iteFq (decide_eq_false fun e => h0 (by have := V.int.inj e; omega)) ?_
        have s7 : SameB a H6 H6 := SameB.refl
        have n7 := n6
        have eL7 := s7 _ _ hLa eL
        have eD7 := s7 _ _ hDa eD
        refine ⟨.ref D, rfl, .inl ⟨rfl, _, sqL eD7⟩, .ref L, rfl, .int (sd : Nat), rfl, L, [.str "on", .str "off"], sd, .str (kn (sd == 0)), rfl, rfl, sqL eL7, atI_nat (by rcases (by omega : sd = 0 ∨ sd = 1) with e | e <;> subst e <;> rfl), .ref a, rfl, .int (mo : Nat), rfl, a, mo, rfl, by omega, n7, fun H8 r hr8 s8 n8 => ?_⟩
        have eL8 := s8 _ _ hLa eL7
        have eD8 := s8 _ _ hDa eD7
        have b8 := b6.trans (s7.trans s8)
        have p8 := clks_b n7 s8 (clks_b n6 s7 pt)
        refine ⟨by show 2 ≤ sizeLine; decide, fun U nU => ?_⟩
        have hUa := nums_ne n8 nU
        have hUD : D ≠ U := ne_of_none eD8 nU
        have hUL : L ≠ U := ne_of_none eL8 nU
        have sU := same_upd nU (o := .tup [.str (kn (sd == 0)), .int (r : Nat)])
        have lts : ts.length = l.length := pt.length
        refine ⟨D, ts, _, rfl, rfl, sU _ _ eD8, by rw [sizeLine_eq]; omega, ?_⟩
        have e1 : (1 : Int) - (sd : Nat) = ((1 - sd : Nat) : Int) := by omega
        refine ⟨.int (sd : Nat), rfl, 1, _, rfl, rfl, ?_⟩
        refine ⟨⟨1 - sd, some (.int ((0 : Int) + (i : Nat))), by omega, by rw [← e1]; rfl⟩, fun b o n e => ?_, nums_upd (nums_upd n8 hUa) hDa, ?_, _, l ++ [(sd == 0, r)], upd_same, ?_, by rw [List.length_append, hl]; rfl, fun c hc' => ?_⟩
        · rw [upd_ne (ne_of_none e nDH)]
          exact sU _ _ (b8 _ _ n e)
        · rw [upd_ne hLD]
          exact sU _ _ eL8
        · exact paired_snoc (clks_upd (sU _ _ eD8) (p8.same sU)) (clk_upd (sU _ _ eD8) ⟨U, rfl, upd_same⟩)
        · rcases List.mem_append.mp hc' with h | h
          · exact hc c h
          · rw [List.mem_singleton.mp h]
            show r ≤ 60
            omega
    · rintro σ H6 ⟨⟨sd, c, hsd, rfl⟩, b6, n6, eL, ts, l, eD, pt, hl, hc⟩
      refine ⟨.ref D, rfl, D, ts, rfl, .inl ⟨sqL eD, fun T nT => ?_⟩⟩
      have hl : l.length = m := by rw [hl]; rfl
      exact q T _ l (b6.trans (sameB_of (same_upd nT))) (n6.same (same_upd nT)) (none_of_b b6 n6 nT) ⟨ts, upd_same, pt.same (same_upd nT)⟩ (by omega) hc
end
end K7

set_option Elab.async false
set_option linter.all false
set_option maxRecDepth 100000
set_option maxHeartbeats 4000000
namespace K7
open PySem PySem.Spec PyProof.Rows L2 GX NdefX K24
theorem bsV_rep (n : Nat) (b : Bool) : List.replicate n (V.int (b2n b : Nat)) = bsV (List.replicate n b) := by
  unfold bsV
  rw [List.map_replicate]
theorem bsV_app (xs ys : List Bool) : bsV xs ++ bsV ys = bsV (xs ++ ys) := by
  unfold bsV
  rw [List.map_append]
theorem bsV_take (xs : List Bool) (k : Nat) : (bsV xs).take k = bsV (xs.take k) := by
  unfold bsV
  rw [List.map_take]
theorem b2n_of {r : Nat} (h : r < 2) : r = b2n (r == 1) := by
  rcases (by omega : r = 0 ∨ r = 1) with e | e <;> subst e <;> rfl
theorem b2n_not (b : Bool) : (1 : Int) - (b2n b : Nat) = (b2n (!b) : Nat) := by cases b <;> rfl
def spRuns : Sp := fun vs H Q _ => ∃ (a : Addr), vs = [.ref a] ∧ NumsAt H a ∧ ∀ T H' xs, SameB a H H' → NumsAt H' a → H T = none → H' T = some (.tup (bsV xs)) → xs.length ≤ 90 → Q (.ref T) H'
section
variable {P : Program} {w : World} {K : PySem.W.Frag} {mg : Str → Option Value} {base : Heap}
theorem ok_runs {f fD : Addr} {fd fdD : FuncData} {k : Nat} (F : Fun K "_law_runs" "_law_runs" sLRuns f fd) (B : Bl mg) (FD : Fun K "_law_draw" "_law_draw" sLDraw fD fdD) (bD : Binds K fdD ["numbers", "many"] []) (gD : mg "_law_draw" = some (.ref fD)) : FnOk P w K mg base CX0 (k + 2) f fd ["numbers"] spRuns := by
  have GD : FnOk P w K mg base CX0 (k + 1) fD fdD ["numbers", "many"] spDraw := ok_draw FD B
  refine F.ok scLRuns (fun vs H Q E h => ?_) (fun cdv A outer s H vs Q E hr h => ?_)
  · obtain ⟨a, rfl, _⟩ := h
    rfl
  · obtain ⟨a, rfl, hn, q⟩ := h
    refine ⟨_, pss_cons (ps_set (i := 1) scLRuns.nd rfl (.inl rfl) (pe_lst pa_nil))
      (pss_cons (ps_set (i := 2) scLRuns.nd rfl (.inl rfl) (pe_call GD hr (by rfl) gD FD.kp bD .nil pass0 (pa_cons (pv 0) (pa_cons pe_int pa_nil))))
      (pss_cons (ps_set (i := 3) scLRuns.nd rfl (.inl rfl) (pe_ix (r := rIxL K) ix_list (pe_lst (pa_cons pe_int (pa_cons pe_int (pa_cons pe_int pa_nil)))) (pe_call GD hr (by rfl) gD FD.kp bD .nil pass0 (pa_cons (pv 0) (pa_cons pe_int pa_nil))) (fun _ _ => rfl)))
      (pss_cons (ps_for PassesOwn.never rfl (pi_range1 (by rfl) B.range (pa_cons (pe_op op_add pe_int (pe_call GD hr (by rfl) gD FD.kp bD .nil pass0 (pa_cons (pv 0) (pa_cons pe_int pa_nil)))) pa_nil)) (pg_name (i := 4) scLRuns.nd rfl (.inl rfl))
        (pss_cons (ps_set (i := 1) scLRuns.nd rfl (.inl rfl) (pe_op op_cat (pv 1) (pe_op op_rep (pe_lst (pa_cons (pv 2) pa_nil)) (pe_op op_add pe_int (pe_call GD hr (by rfl) gD FD.kp bD .nil pass0 (pa_cons (pv 0) (pa_cons (pv 3) pa_nil)))))))
        (pss_one (ps_set (i := 2) scLRuns.nd rfl (.inl rfl) (pe_op op_sub pe_int (pv 2))))))
      (pss_one (ps_ret (pe_callTy (T := "tuple") (r := fun xs H Q => ∃ p ys, xs = [V.ref p] ∧ ((SqL K H p ys ∧ ∀ l, H l = none → Q (.ref l) (upd H l (.tup ys))) ∨ (SqT K H p ys ∧ Q (.ref p) H))) call_tuple_of (by rfl) B.tuple (by decide +kernel) (pa_cons (pe_slice sl_list (pv 1) po_none (po_some pe_int)) pa_nil))))))), ?_⟩
    refine ⟨Nat.zero_le _, fun D nD => ?_⟩
    have hDa := nums_ne hn nD
    refine ⟨.ref a, rfl, a, 2, rfl, by decide, hn.same (same_upd nD), fun H1 r1 hr1 s1 n1 => ?_⟩
    have b1 : SameB a H H1 := (sameB_of (same_upd nD)).trans s1
    have eD1 := s1 _ _ hDa upd_same
    refine ⟨by show 3 ≤ sizeLine; decide, fun M2 nM2 => ?_⟩
    refine ⟨.ref a, rfl, a, 3, rfl, by decide, n1.same (same_upd nM2), fun H2 r2 hr2 s2 n2 => ?_⟩
    have b2 : SameB a H H2 := b1.trans ((sameB_of (same_upd nM2)).trans s2)
    have eD2 := s2 _ _ hDa (same_upd nM2 _ _ eD1)
    refine pick (ms := [4, 14, 40]) (s2 _ _ (nums_ne n1 nM2) upd_same) hr2 fun lo hlo => ?_
    have hlo : 1 ≤ lo ∧ lo ≤ 40 := by revert hlo; revert lo; decide
    refine ⟨.ref a, rfl, a, 12, rfl, by decide, n2, fun H3 r3 hr3 s3 n3 => ?_⟩
    have b3 := b2.trans s3
    have eD3 := s3 _ _ hDa eD2
    have e3 : (2 : Int) + (r3 : Nat) = ((2 + r3 : Nat) : Int) := rfl
    refine ⟨2, _, rfl, rfl, 2 + r3, rfl, by omega, by omega, ?_⟩
    refine for_range (D := { nx := _, rt := Q }) (fun i σ H' => (∃ (D : Addr) (xs : List Bool) (b : Bool) (c : Option V), σ = [some (.ref a), some (.ref D), some (.int (b2n b : Nat)), some (.int (lo : Nat)), c] ∧ D ≠ a ∧ H' D = some (.lst (bsV xs)) ∧ xs.length ≤ i * 40) ∧ SameB a H H' ∧ NumsAt H' a) ?_ ?_ ?_
    · refine ⟨⟨D, [], r1 == 1, none, ?_, hDa, eD3, Nat.zero_le _⟩, b3, n3⟩
      rw [← b2n_of hr1]
      rfl
    · rintro i σ H4 hi ⟨⟨D, xs, b, c, rfl, hDa, eD, hl⟩, b4, n4⟩
      refine ⟨.ref D, rfl, .int (b2n b : Nat), rfl, by show 1 ≤ sizeLine; decide, fun U nU => ?_⟩
      have sU := same_upd nU (o := .lst [.int (b2n b : Nat)])
      have hUa := nums_ne n4 nU
      refine ⟨.ref a, rfl, .int (lo : Nat), rfl, a, lo, rfl, by omega, n4.same sU, fun H5 r5 hr5 s5 n5 => ?_⟩
      have eU5 := s5 _ _ hUa upd_same
      have eD5 := s5 _ _ hDa (sU _ _ eD)
      have b5 := b4.trans ((sameB_of sU).trans s5)
      have hi14 : i ≤ 13 := by
        have : r3 < 12 := hr3
        omega
      have hlen : (bsV xs).length ≤ 600 := by rw [bsV_len]; omega
      have hr5' : r5 < 40 := by omega
      refine ⟨1, _, rfl, rfl, U, (1 : Int) + (r5 : Nat), _, rfl, rfl, eU5, by omega, by omega, by show 1 * _ ≤ _; rw [sizeLine_eq]; omega, fun W nW => ?_⟩
      have e1 : ((1 : Int) + (r5 : Nat)).toNat = r5 + 1 := by omega
      rw [e1, rep_flat, bsV_rep]
      have sW := same_upd nW (o := .lst (bsV (List.replicate (r5 + 1) b)))
      have n6 := n5.same sW
      have hWa := nums_ne n5 nW
      refine ⟨D, W, _, _, rfl, rfl, sW _ _ eD5, upd_same, by rw [bsV_len (List.replicate _ _), List.length_replicate, sizeLine_eq]; omega, fun Z nZ => ?_⟩
      have sZ := same_upd nZ (o := .lst (bsV xs ++ bsV (List.replicate (r5 + 1) b)))
      refine ⟨.int (b2n b : Nat), rfl, 1, _, rfl, rfl, ?_⟩
      refine ⟨⟨Z, xs ++ List.replicate (r5 + 1) b, !b, some (.int ((0 : Int) + (i : Nat))), by rw [← b2n_not]; rfl, nums_ne n6 nZ, by rw [upd_same, bsV_app], ?_⟩, b5.trans ((sameB_of sW).trans (sameB_of sZ)), n6.same sZ⟩
      rw [List.length_append, List.length_replicate]
      omega
    · rintro σ H6 ⟨⟨D, xs, b, c, rfl, hDa, eD, hl⟩, b6, n6⟩
      refine ⟨.ref D, rfl, _, rfl, D, _, rfl, sqL eD, fun U nU => ?_⟩
      have sU := same_upd nU (o := .lst (cutV (bsV xs) none (some 90)))
      refine ⟨U, _, rfl, .inl ⟨sqL upd_same, fun T nT => ?_⟩⟩
      have sT := same_upd nT (o := .tup (cutV (bsV xs) none (some 90)))
      refine q T _ (xs.take 90) (b6.trans ((sameB_of sU).trans (sameB_of sT))) ((n6.same sU).same sT) (none_of_b (b6.trans (sameB_of sU)) (n6.same sU) nT) ?_ (by rw [List.length_take]; omega)
      rw [upd_same, show cutV (bsV xs) none (some 90) = (bsV xs).take 90 from cut_to (bsV xs) 90, bsV_take]
end
end K7

set_option Elab.async false
set_option linter.all false
set_option maxRecDepth 100000
set_option maxHeartbeats 4000000
namespace K7
open PySem PySem.Spec PyProof.Rows L2 GX NdefX K24
def stL (c : Clk) : Nat := if c.1 = true then 0 else c.2
theorem stL_fit (c : Clk) : Fit (stL c) c := by
  obtain ⟨k, n⟩ := c
  cases k with
  | true => exact rfl
  | false => exact Nat.le_refl n
def spOut : Sp := fun vs H Q _ => ∃ (a b : Addr) (d : Nat) (l : List Clk) (xs : List Bool), vs = [.ref a, .int (d : Nat), .ref b] ∧ RowT H a l ∧ H b = some (.tup (bsV xs)) ∧ xs.length ≤ 90 ∧ d ≤ 1000 ∧ ∀ T H', Same H H' → H T = none → H' T = some (.tup (bsV (outL stL l d xs))) → Q (.ref T) H'
section
variable {P : Program} {w : World} {K : PySem.W.Frag} {mg : Str → Option Value} {base : Heap}
theorem ok_out {f : Addr} {fd : FuncData} {k : Nat} (F : Fun K "_law_out" "_law_out" sLOut f fd) (B : Bl mg) : FnOk P w K mg base CX0 (k + 1) f fd ["row", "delay", "bits"] spOut := by
  refine F.ok scLOut (fun vs H Q E h => ?_) (fun cdv A outer s H vs Q E hr h => ?_)
  · obtain ⟨a, b, d, l, xs, rfl, _⟩ := h
    rfl
  · obtain ⟨a, b, d, l, xs, rfl, ⟨ts, ha, pl⟩, hb, hl, hd, q⟩ := h
    refine ⟨_, (pss_cons (ps_set (i := 3) scLOut.nd rfl (.inl rfl) (pe_callTy call_list_of (by rfl) B.list (by decide +kernel) (pa_cons (pv 2) pa_nil)))
        (pss_cons (ps_for PassesOwn.never rfl (pi_seq (pv 0)) (pg_tup rfl (pgs_cons (pg_name (i := 4) scLOut.nd rfl (Or.inl rfl)) (pgs_cons (pg_name (i := 5) scLOut.nd rfl (Or.inl rfl)) pgs_nil))) (pss_cons (ps_set (i := 6) scLOut.nd rfl (.inl rfl) (pe_callTy call_int1 (by rfl) B.int (by decide +kernel) (pa_cons (pe_cmpR op_eq (pv 4) pe_str (nomark _)) pa_nil)))
        (pss_cons (ps_set (i := 7) scLOut.nd rfl (.inl rfl) pe_int)
        (pss_cons (ps_if (pt_cmpR op_eq (pv 4) pe_str (nomark _)) (pss_one (ps_set (i := 7) scLOut.nd rfl (.inl rfl) (pv 5))) pss_nil)
        (pss_cons (ps_set (i := 8) scLOut.nd rfl (.inl rfl) (pe_lst pa_nil))
        (pss_cons (ps_for PassesOwn.never rfl (pi_seq (pv 3)) (pg_name (i := 9) scLOut.nd rfl (Or.inl rfl)) (pss_cons (ps_if (pt_cmpR op_eq (pv 9) (pv 6) (nomark _)) (pss_one (ps_set (i := 7) scLOut.nd rfl (.inl rfl) (pe_op op_add (pv 7) pe_int))) (pss_one (ps_set (i := 7) scLOut.nd rfl (.inl rfl) pe_int)))
        (pss_one (ps_if (pt_cmpR op_gt (pv 7) (pv 5) (nomark _)) (pss_one (ps_expr (pe_bm PySem.F.plainAttrs_list PySem.F.slot_list_append PySem.F.type_list_append mt_append (pv 8) (pa_cons (pv 6) pa_nil)))) (pss_one (ps_expr (pe_bm PySem.F.plainAttrs_list PySem.F.slot_list_append PySem.F.type_list_append mt_append (pv 8) (pa_cons (pe_op op_sub pe_int (pv 6)) pa_nil))))))))
        (pss_one (ps_set (i := 3) scLOut.nd rfl (.inl rfl) (pe_callTy call_list_of (by rfl) B.list (by decide +kernel) (pa_cons (pv 8) pa_nil))))))))))
        (pss_one (ps_ret (pe_callTy (T := "tuple") (r := fun xs H Q => ∃ p ys, xs = [V.ref p] ∧ ((SqL K H p ys ∧ ∀ l, H l = none → Q (.ref l) (upd H l (.tup ys))) ∨ (SqT K H p ys ∧ Q (.ref p) H))) call_tuple_of (by rfl) B.tuple (by decide +kernel) (pa_cons (pe_slice sl_list (pe_op op_cat (pe_op op_rep (pe_lst (pa_cons pe_int pa_nil)) (pv 1)) (pv 3)) po_none (po_some (pe_callB call_len (by rfl) B.len PySem.boot_len (pa_cons (pv 2) pa_nil)))) pa_nil)))))), ?_⟩
    have lts : ts.length = l.length := pl.length
    refine ⟨.ref b, rfl, b, _, rfl, .inr (sqT hb), fun F0 nF0 => ?_⟩
    have s0 := same_upd nF0 (o := .lst (bsV xs))
    refine ⟨.ref a, rfl, a, ts, rfl, forSeq (D := { nx := _, rt := Q }) (fun i σ H' => (∃ Fd c4 c5 c6 c7 c8 c9, σ = [some (.ref a), some (.int (d : Nat)), some (.ref b), some (.ref Fd), c4, c5, c6, c7, c8, c9] ∧ H' Fd = some (.lst (bsV (rowL stL (l.take i) xs)))) ∧ Same H H') (.inr (s0 _ _ ha)) ⟨⟨F0, _, _, _, _, _, _, rfl, upd_same⟩, s0⟩ (fun i σ H' o p e => ?_) ?_ ?_⟩
    · rw [s0 _ _ ha] at e
      rw [p.2 _ _ ha]
      exact e
    · rintro i x σ H2 hx ⟨⟨Fd, c4, c5, c6, c7, c8, c9, rfl, eF⟩, s2⟩
      obtain ⟨⟨k, n⟩, hc, u, rfl, hu⟩ := paired_get pl hx
      refine ⟨u, _, rfl, sqT (s2 _ _ hu), rfl, .str (kn k), _, rfl, .int (n : Nat), _, rfl, rfl, ?_⟩
      generalize hws : rowL stL (l.take i) xs = ws at *
      have hwl : ws.length ≤ 90 := by rw [← hws, rowL_len]; exact hl
      have hrl : rowL stL (l.take i) xs = ws := hws
      rcases (by cases k <;> simp : k = true ∨ k = false) with rfl | rfl
      · -- true
        have ek : (V.str (kn true)) = V.str (kn true) := rfl
        refine ⟨.str (kn true), rfl, rfl, .inr ⟨true, rfl, ?_⟩⟩
        refine ⟨.str (kn true), rfl, rfl, _, rfl, iteFq (by decide) ?_⟩
        refine ⟨Nat.zero_le _, fun D nD => ?_⟩
        have sD : Same H2 (upd H2 D (.lst [])) := same_upd nD
        refine ⟨.ref Fd, rfl, Fd, bsV ws, rfl, forSeq (D := { nx := _, rt := Q }) (fun j σ H' => (∃ c9, σ = [some (.ref a), some (.int (d : Nat)), some (.ref b), some (.ref Fd), some (.str (kn true)), some (.int (n : Nat)), some (.int (b2n true : Nat)), some (.int (metL true (stL (true, n)) (ws.take j) : Nat)), some (.ref D), c9]) ∧ Same H2 H' ∧ H' D = some (.lst (bsV (wf true n (stL (true, n)) (ws.take j))))) (.inl (sD _ _ eF)) ⟨⟨_, rfl⟩, sD, upd_same⟩ (fun i σ H' o p e => ?_) ?_ ?_⟩
        · rw [upd_ne (fun z => by subst z; rw [nD] at eF; cases eF)] at e
          exact p.2.1 _ _ e
        · rintro j y σ H3 hy ⟨⟨c9, rfl⟩, s3, e3⟩
          obtain ⟨x, hx, rfl⟩ := bsV_get hy
          have hj := (List.getElem?_eq_some_iff.mp hx).1
          have hlen : (bsV (wf true n (stL (true, n)) (ws.take j))).length ≤ 1000 := by rw [bsV_len, wf_len, List.length_take]; omega
          rw [take_get hx, wf_snoc, bsV_snoc, metL_snoc]
          generalize metL true (stL (true, n)) (ws.take j) = m
          generalize wf true n (stL (true, n)) (ws.take j) = vs at e3 hlen ⊢
          refine ⟨.int (b2n x : Nat), rfl, .int (b2n true : Nat), rfl, rfl, _, rfl, ?_⟩
          by_cases hxb : x = true
          · refine iteTq (by rw [hxb]; exact decide_eq_true rfl) ⟨.int (m : Nat), rfl, _, 1, rfl, rfl, ?_⟩
            refine ⟨.int ((m + 1 : Nat)), rfl, .int (n : Nat), rfl, _, _, rfl, rfl, _, rfl, ?_⟩
            rw [if_pos hxb]
            by_cases hn : n < m + 1
            · refine iteTq (decide_eq_true (show ((n : Nat) : Int) < ((m + 1 : Nat) : Int) by omega)) ⟨.ref D, rfl, .inl ⟨rfl, _, sqL e3⟩, .int (b2n true : Nat), rfl, D, _, _, rfl, rfl, e3, by rw [sizeLine_eq]; omega, ?_⟩
              rw [if_pos hn]
              exact ⟨⟨_, rfl⟩, fun b' o e => by rw [upd_ne (ne_of_none e nD)]; exact s3 _ _ e, upd_same⟩
            · refine iteFq (decide_eq_false (show ¬ ((n : Nat) : Int) < ((m + 1 : Nat) : Int) by omega)) ⟨.ref D, rfl, .inl ⟨rfl, _, sqL e3⟩, .int (b2n true : Nat), rfl, 1, _, rfl, rfl, D, _, _, rfl, rfl, e3, by rw [sizeLine_eq]; omega, ?_⟩
              rw [if_neg hn]
              exact ⟨⟨_, rfl⟩, fun b' o e => by rw [upd_ne (ne_of_none e nD)]; exact s3 _ _ e, upd_same⟩
          · refine iteFq (decide_eq_false fun e => hxb (by cases x <;> simp_all [b2n])) ?_
            refine ⟨.int (0 : Nat), rfl, .int (n : Nat), rfl, _, _, rfl, rfl, _, rfl, ?_⟩
            rw [if_neg hxb]
            by_cases hn : n < 0
            · exact absurd hn (Nat.not_lt_zero _)
            · refine iteFq (decide_eq_false (show ¬ ((n : Nat) : Int) < ((0 : Nat) : Int) by omega)) ⟨.ref D, rfl, .inl ⟨rfl, _, sqL e3⟩, .int (b2n true : Nat), rfl, 1, _, rfl, rfl, D, _, _, rfl, rfl, e3, by rw [sizeLine_eq]; omega, ?_⟩
              rw [if_neg hn]
              exact ⟨⟨_, rfl⟩, fun b' o e => by rw [upd_ne (ne_of_none e nD)]; exact s3 _ _ e, upd_same⟩
        · rintro σ H3 ⟨⟨c9, rfl⟩, s3, e3⟩
          rw [bsV_len, List.take_of_length_le (Nat.le_refl _)] at e3
          refine ⟨.ref D, rfl, D, _, rfl, .inl (sqL e3), fun W nW => ?_⟩
          refine ⟨⟨W, _, _, _, _, _, _, rfl, ?_⟩, s2.trans (s3.trans (same_upd nW))⟩
          rw [upd_same, take_get hc]
          unfold rowL
          rw [List.foldl_append]
          exact congrArg (fun z => some (HO.lst (bsV (wf true n (stL (true, n)) z)))) hws.symm
      · -- false
        have ek : (V.str (kn false)) = V.str (kn false) := rfl
        refine ⟨.str (kn false), rfl, rfl, .inr ⟨false, rfl, ?_⟩⟩
        refine ⟨.str (kn false), rfl, rfl, _, rfl, iteTq (by decide) ⟨.int (n : Nat), rfl, ?_⟩⟩
        refine ⟨Nat.zero_le _, fun D nD => ?_⟩
        have sD : Same H2 (upd H2 D (.lst [])) := same_upd nD
        refine ⟨.ref Fd, rfl, Fd, bsV ws, rfl, forSeq (D := { nx := _, rt := Q }) (fun j σ H' => (∃ c9, σ = [some (.ref a), some (.int (d : Nat)), some (.ref b), some (.ref Fd), some (.str (kn false)), some (.int (n : Nat)), some (.int (b2n false : Nat)), some (.int (metL false (stL (false, n)) (ws.take j) : Nat)), some (.ref D), c9]) ∧ Same H2 H' ∧ H' D = some (.lst (bsV (wf false n (stL (false, n)) (ws.take j))))) (.inl (sD _ _ eF)) ⟨⟨_, rfl⟩, sD, upd_same⟩ (fun i σ H' o p e => ?_) ?_ ?_⟩
        · rw [upd_ne (fun z => by subst z; rw [nD] at eF; cases eF)] at e
          exact p.2.1 _ _ e
        · rintro j y σ H3 hy ⟨⟨c9, rfl⟩, s3, e3⟩
          obtain ⟨x, hx, rfl⟩ := bsV_get hy
          have hj := (List.getElem?_eq_some_iff.mp hx).1
          have hlen : (bsV (wf false n (stL (false, n)) (ws.take j))).length ≤ 1000 := by rw [bsV_len, wf_len, List.length_take]; omega
          rw [take_get hx, wf_snoc, bsV_snoc, metL_snoc]
          generalize metL false (stL (false, n)) (ws.take j) = m
          generalize wf false n (stL (false, n)) (ws.take j) = vs at e3 hlen ⊢
          refine ⟨.int (b2n x : Nat), rfl, .int (b2n false : Nat), rfl, rfl, _, rfl, ?_⟩
          by_cases hxb : x = false
          · refine iteTq (by rw [hxb]; exact decide_eq_true rfl) ⟨.int (m : Nat), rfl, _, 1, rfl, rfl, ?_⟩
            refine ⟨.int ((m + 1 : Nat)), rfl, .int (n : Nat), rfl, _, _, rfl, rfl, _, rfl, ?_⟩
            rw [if_pos hxb]
            by_cases hn : n < m + 1
            · refine iteTq (decide_eq_true (show ((n : Nat) : Int) < ((m + 1 : Nat) : Int) by omega)) ⟨.ref D, rfl, .inl ⟨rfl, _, sqL e3⟩, .int (b2n false : Nat), rfl, D, _, _, rfl, rfl, e3, by rw [sizeLine_eq]; omega, ?_⟩
              rw [if_pos hn]
              exact ⟨⟨_, rfl⟩, fun b' o e => by rw [upd_ne (ne_of_none e nD)]; exact s3 _ _ e, upd_same⟩
            · refine iteFq (decide_eq_false (show ¬ ((n : Nat) : Int) < ((m + 1 : Nat) : Int) by omega)) ⟨.ref D, rfl, .inl ⟨rfl, _, sqL e3⟩, .int (b2n false : Nat), rfl, 1, _, rfl, rfl, D, _, _, rfl, rfl, e3, by rw [sizeLine_eq]; omega, ?_⟩
              rw [if_neg hn]
              exact ⟨⟨_, rfl⟩, fun b' o e => by rw [upd_ne (ne_of_none e nD)]; exact s3 _ _ e, upd_same⟩
          · refine iteFq (decide_eq_false fun e => hxb (by cases x <;> simp_all [b2n])) ?_
            refine ⟨.int (0 : Nat), rfl, .int (n : Nat), rfl, _, _, rfl, rfl, _, rfl, ?_⟩
            rw [if_neg hxb]
            by_cases hn : n < 0
            · exact absurd hn (Nat.not_lt_zero _)
            · refine iteFq (decide_eq_false (show ¬ ((n : Nat) : Int) < ((0 : Nat) : Int) by omega)) ⟨.ref D, rfl, .inl ⟨rfl, _, sqL e3⟩, .int (b2n false : Nat), rfl, 1, _, rfl, rfl, D, _, _, rfl, rfl, e3, by rw [sizeLine_eq]; omega, ?_⟩
              rw [if_neg hn]
              exact ⟨⟨_, rfl⟩, fun b' o e => by rw [upd_ne (ne_of_none e nD)]; exact s3 _ _ e, upd_same⟩
        · rintro σ H3 ⟨⟨c9, rfl⟩, s3, e3⟩
          rw [bsV_len, List.take_of_length_le (Nat.le_refl _)] at e3
          refine ⟨.ref D, rfl, D, _, rfl, .inl (sqL e3), fun W nW => ?_⟩
          refine ⟨⟨W, _, _, _, _, _, _, rfl, ?_⟩, s2.trans (s3.trans (same_upd nW))⟩
          rw [upd_same, take_get hc]
          unfold rowL
          rw [List.foldl_append]
          exact congrArg (fun z => some (HO.lst (bsV (wf false n (stL (false, n)) z)))) hws.symm
    · rintro σ H2 ⟨⟨Fd, c4, c5, c6, c7, c8, c9, rfl, eF⟩, s2⟩
      rw [lts, List.take_of_length_le (Nat.le_refl _)] at eF
      refine ⟨by show 1 ≤ sizeLine; decide, fun U nU => ?_⟩
      have sU := same_upd nU (o := .lst [V.int 0])
      generalize hws : rowL stL l xs = ws at *
      have hwl : ws.length = xs.length := by rw [← hws, rowL_len]
      have eo : outL stL l d xs = late d ws := by unfold outL; rw [hws]
      refine ⟨.int (d : Nat), rfl, U, (d : Nat), _, rfl, rfl, upd_same, by omega, by omega, by show 1 * _ ≤ _; rw [sizeLine_eq]; omega, fun W nW => ?_⟩
      rw [show ((d : Nat) : Int).toNat = d from rfl, rep_flat, show V.int 0 = V.int (b2n false : Nat) from rfl, bsV_rep] at *
      have sW := same_upd nW (o := .lst (bsV (List.replicate d false)))
      refine ⟨.ref Fd, rfl, W, Fd, _, _, rfl, rfl, upd_same, sW _ _ (sU _ _ eF), by rw [bsV_len, bsV_len, List.length_replicate, sizeLine_eq]; omega, fun Z nZ => ?_⟩
      rw [bsV_app] at *
      have sZ := same_upd nZ (o := .lst (bsV (List.replicate d false ++ ws)))
      have s5 := ((s2.trans sU).trans sW).trans sZ
      (try delta tNoPart)
      refine ⟨.ref b, rfl, .ref b, xs.length, rfl, lenV_sq (.inr (s5 _ _ hb)) (bsV_len xs), _, rfl, Z, _, rfl, sqL upd_same, fun Y nY => ?_⟩
      rw [cut_to, bsV_take, ← hwl, late_take, ← eo] at *
      have sY := same_upd nY (o := .lst (bsV (outL stL l d xs)))
      (try delta tNil)
      refine ⟨Y, _, rfl, .inl ⟨sqL upd_same, fun T nT => ?_⟩⟩
      exact q T _ ((s5.trans sY).trans (same_upd nT)) (none_of_same (s5.trans sY) nT) upd_same
end
end K7

set_option Elab.async false
set_option linter.all false
set_option maxRecDepth 100000
set_option maxHeartbeats 4000000
namespace K7
open PySem PySem.Spec PyProof.Rows L2 GX NdefX K24
theorem scLRule : FnScope ["row", "place", "kind", "number"] ["row", "place"] (defScope sLRule) := ⟨rfl, rfl, rfl, by decide +kernel, rfl, by decide +kernel, by decide +kernel⟩
def ruL : Option Ru → Str
  | none => ""
  | some r => ruN r
def spLRule : Sp := fun vs H Q _ => ∃ (a : Addr) (p : Nat) (l : List Clk), vs = [.ref a, .int (p : Nat)] ∧ RowT H a l ∧ p < l.length ∧ l.length ≤ 100 ∧ Q (.str (ruL (ruleL (l.drop p)))) H
section
variable {P : Program} {w : World} {K : PySem.W.Frag} {mg : Str → Option Value} {base : Heap}
theorem ok_lrule {f : Addr} {fd : FuncData} {k : Nat} (F : Fun K "_law_rule" "_law_rule" sLRule f fd) (B : Bl mg) : FnOk P w K mg base CX0 (k + 1) f fd ["row", "place"] spLRule := by
  refine F.ok scLRule (fun vs H Q E h => ?_) (fun cdv A outer s H vs Q E hr h => ?_)
  · obtain ⟨a, p, l, rfl, _⟩ := h
    rfl
  · obtain ⟨a, p, l, rfl, ⟨xs, ha, pl⟩, hp, hl, q⟩ := h
    refine ⟨_, (pss_cons (ps_asg (pe_ix (r := rIxT K) ix_tup (pv 0) (pv 1) (fun _ _ => rfl)) (pg_tup rfl (pgs_cons (pg_name (i := 2) scLRule.nd rfl (Or.inl rfl)) (pgs_cons (pg_name (i := 3) scLRule.nd rfl (Or.inl rfl)) pgs_nil))))
        (pss_cons (ps_if (pt_cmpR op_eq (pv 3) pe_int (nomark _)) (pss_one (ps_ret pe_str)) pss_nil)
        (pss_cons (ps_if (PW.pt (pw_and (pt_cmpR op_lt (pe_op op_add (pv 1) pe_int) (pe_callB call_len (by rfl) B.len PySem.boot_len (pa_cons (pv 0) pa_nil)) (nomark _)) (pw_and1 (pt_cmpR op_eq (pe_ix (r := rIxT K) ix_tup (pe_ix (r := rIxT K) ix_tup (pv 0) (pe_op op_add (pv 1) pe_int) (fun _ _ => rfl)) pe_int (fun _ _ => rfl)) (pv 2) (nomark _))))) (pss_one (ps_ret pe_str)) pss_nil)
        (pss_cons (ps_if (PW.pt (pw_and (pt_cmpR op_lt (pe_op op_add (pv 1) pe_int) (pe_callB call_len (by rfl) B.len PySem.boot_len (pa_cons (pv 0) pa_nil)) (nomark _)) (pw_and (pt_cmpR op_eq (pe_ix (r := rIxT K) ix_tup (pe_ix (r := rIxT K) ix_tup (pv 0) (pe_op op_add (pv 1) pe_int) (fun _ _ => rfl)) pe_int (fun _ _ => rfl)) (pv 2) (nomark _)) (pw_and1 (pt_cmpR op_le (pe_ix (r := rIxT K) ix_tup (pe_ix (r := rIxT K) ix_tup (pv 0) (pe_op op_add (pv 1) pe_int) (fun _ _ => rfl)) pe_int (fun _ _ => rfl)) (pv 3) (nomark _)))))) (pss_cons (ps_if (pt_cmpR op_le (pe_ix (r := rIxT K) ix_tup (pe_ix (r := rIxT K) ix_tup (pv 0) (pe_op op_add (pv 1) pe_int) (fun _ _ => rfl)) pe_int (fun _ _ => rfl)) (pe_ix (r := rIxT K) ix_tup (pe_ix (r := rIxT K) ix_tup (pv 0) (pe_op op_add (pv 1) pe_int) (fun _ _ => rfl)) pe_int (fun _ _ => rfl)) (nomark _)) (pss_one (ps_ret pe_str)) pss_nil)
        (pss_one (ps_ret pe_str))) pss_nil)
        (pss_one (ps_ret pe_str)))))), ?_⟩
    have lxs : xs.length = l.length := pl.length
    have hget : ∀ j c, (l.drop p)[j]? = some c → ∃ b, xs[p + j]? = some (.ref b) ∧ H b = some (.tup (clkV c)) := fun j c h => by
      rw [List.getElem?_drop] at h
      exact clks_got pl h
    have dl : (l.drop p).length = l.length - p := List.length_drop
    generalize l.drop p = d at q hget dl
    match d, q, hget, dl with
    | [], _, _, dl => rw [List.length_nil] at dl; omega
    | (k0, n0) :: r, q, hget, dl =>
      obtain ⟨b0, x0, h0⟩ := hget 0 (k0, n0) rfl
      rw [Nat.add_zero] at x0
      have hq0 : n0 = 0 → ruleL ((k0, n0) :: r) = some .nothing := fun z => by
        subst z
        match r with
        | [] => rfl
        | [(_, _)] => rfl
        | (_, _) :: (_, _) :: _ => rfl
      refine ⟨.ref a, rfl, .int (p : Nat), rfl, a, xs, _, .ref b0, rfl, rfl, sqT ha, atI_nat x0, b0, _, rfl, sqT h0, rfl, .str (kn k0), _, rfl, .int (n0 : Nat), _, rfl, rfl, ?_⟩
      refine ⟨.int (n0 : Nat), rfl, rfl, _, rfl, ?_⟩
      by_cases z0 : n0 = 0
      · rw [hq0 z0] at q
        exact iteTq (by rw [z0]; rfl) q
      refine iteFq (decide_eq_false fun e => z0 (by have := V.int.inj e; omega)) ?_
      have ek : ∀ k1 k2 : Bool, decide (V.str (kn k1) = V.str (kn k2)) = decide (k1 = k2) := fun k1 k2 => by cases k1 <;> cases k2 <;> decide
      match r, q, hget, dl with
      | [], q, _, dl =>
        rw [List.length_cons, List.length_nil] at dl
        refine ⟨.int (p : Nat), rfl, _, 1, rfl, rfl, .ref a, rfl, .ref a, xs.length, rfl, .inr ⟨_, sqT ha, rfl⟩, _, _, rfl, rfl, _, rfl, iteFq (decide_eq_false (show ¬ ((p : Nat) : Int) + 1 < ((xs.length : Nat) : Int) by omega)) ?_⟩
        refine ⟨.int (p : Nat), rfl, _, 2, rfl, rfl, .ref a, rfl, .ref a, xs.length, rfl, .inr ⟨_, sqT ha, rfl⟩, _, _, rfl, rfl, _, rfl, iteFq (decide_eq_false (show ¬ ((p : Nat) : Int) + 2 < ((xs.length : Nat) : Int) by omega)) ?_⟩
        rw [rl1, if_neg z0] at q
        exact q
      | (k1, n1) :: r2, q, hget, dl =>
        obtain ⟨b1, x1, h1⟩ := hget 1 (k1, n1) rfl
        rw [List.length_cons, List.length_cons] at dl
        refine ⟨.int (p : Nat), rfl, _, 1, rfl, rfl, .ref a, rfl, .ref a, xs.length, rfl, .inr ⟨_, sqT ha, rfl⟩, _, _, rfl, rfl, _, rfl, iteTq (decide_eq_true (show ((p : Nat) : Int) + 1 < ((xs.length : Nat) : Int) by omega)) ?_⟩
        refine ⟨.ref a, rfl, .int (p : Nat), rfl, _, 1, rfl, rfl, a, xs, _, .ref b1, rfl, rfl, sqT ha, atI_nat (j := p + 1) x1, b1, _, 0, .str (kn k1), rfl, rfl, sqT h1, atI_nat (j := 0) rfl, .str (kn k0), rfl, rfl, _, rfl, ?_⟩
        by_cases z1 : k1 = k0
        · refine iteTq (by rw [ek]; exact decide_eq_true z1) ?_
          have e : ruleL ((k0, n0) :: (k1, n1) :: r2) = some .added := by
            cases r2 with
            | nil => rw [rl2, if_neg z0, if_pos z1]
            | cons c r3 => obtain ⟨k2, n2⟩ := c; rw [rl3, if_neg z0, if_pos z1]
          rw [e] at q
          exact q
        · refine iteFq (by rw [ek]; exact decide_eq_false z1) ?_
          match r2, q, hget, dl with
          | [], q, _, dl =>
            rw [List.length_nil] at dl
            refine ⟨.int (p : Nat), rfl, _, 2, rfl, rfl, .ref a, rfl, .ref a, xs.length, rfl, .inr ⟨_, sqT ha, rfl⟩, _, _, rfl, rfl, _, rfl, iteFq (decide_eq_false (show ¬ ((p : Nat) : Int) + 2 < ((xs.length : Nat) : Int) by omega)) ?_⟩
            rw [rl2, if_neg z0, if_neg z1] at q
            exact q
          | (k2, n2) :: r3, q, hget, dl =>
            obtain ⟨b2, x2, h2⟩ := hget 2 (k2, n2) rfl
            rw [List.length_cons] at dl
            rw [rl3, if_neg z0, if_neg z1] at q
            refine ⟨.int (p : Nat), rfl, _, 2, rfl, rfl, .ref a, rfl, .ref a, xs.length, rfl, .inr ⟨_, sqT ha, rfl⟩, _, _, rfl, rfl, _, rfl, iteTq (decide_eq_true (show ((p : Nat) : Int) + 2 < ((xs.length : Nat) : Int) by omega)) ?_⟩
            refine ⟨.ref a, rfl, .int (p : Nat), rfl, _, 2, rfl, rfl, a, xs, _, .ref b2, rfl, rfl, sqT ha, atI_nat (j := p + 2) x2, b2, _, 0, .str (kn k2), rfl, rfl, sqT h2, atI_nat (j := 0) rfl, .str (kn k0), rfl, rfl, _, rfl, ?_⟩
            by_cases z2 : k2 = k0
            · refine iteTq (by rw [ek, decide_eq_true z2]) ?_
              refine ⟨.ref a, rfl, .int (p : Nat), rfl, _, 1, rfl, rfl, a, xs, _, .ref b1, rfl, rfl, sqT ha, atI_nat (j := p + 1) x1, b1, _, 1, .int (n1 : Nat), rfl, rfl, sqT h1, atI_nat (j := 1) rfl, .int (n0 : Nat), rfl, _, _, rfl, rfl, _, rfl, ?_⟩
              by_cases z3 : n1 ≤ n0
              · rw [if_pos ⟨z2, z3⟩] at q
                refine iteTq (decide_eq_true (show ((n1 : Nat) : Int) ≤ ((n0 : Nat) : Int) by omega)) ?_
                refine ⟨.ref a, rfl, .int (p : Nat), rfl, _, 1, rfl, rfl, a, xs, _, .ref b1, rfl, rfl, sqT ha, atI_nat (j := p + 1) x1, b1, _, 1, .int (n1 : Nat), rfl, rfl, sqT h1, atI_nat (j := 1) rfl, .ref a, rfl, .int (p : Nat), rfl, _, 2, rfl, rfl, a, xs, _, .ref b2, rfl, rfl, sqT ha, atI_nat (j := p + 2) x2, b2, _, 1, .int (n2 : Nat), rfl, rfl, sqT h2, atI_nat (j := 1) rfl, _, _, rfl, rfl, _, rfl, ?_⟩
                by_cases z4 : n1 ≤ n2
                · rw [if_pos z4] at q
                  exact iteTq (decide_eq_true (show ((n1 : Nat) : Int) ≤ ((n2 : Nat) : Int) by omega)) q
                · rw [if_neg z4] at q
                  exact iteFq (decide_eq_false (show ¬ ((n1 : Nat) : Int) ≤ ((n2 : Nat) : Int) by omega)) q
              · rw [if_neg (fun z => z3 z.2)] at q
                exact iteFq (decide_eq_false (show ¬ ((n1 : Nat) : Int) ≤ ((n0 : Nat) : Int) by omega)) q
            · rw [if_neg (fun z => z2 z.1)] at q
              exact iteFq (by rw [ek, decide_eq_false z2]) q
end
end K7

set_option Elab.async false
set_option linter.all false
set_option maxRecDepth 100000
set_option maxHeartbeats 4000000
namespace K7
open PySem PySem.Spec PyProof.Rows L2 GX NdefX K24
theorem scLRules : FnScope ["row", "found", "place", "pair"] ["row"] (defScope sLRules) := ⟨rfl, rfl, rfl, by decide +kernel, rfl, by decide +kernel, by decide +kernel⟩
theorem scLListed : FnScope ["row", "clock"] ["row"] (defScope sLListed) := ⟨rfl, rfl, rfl, by decide +kernel, rfl, by decide +kernel, by decide +kernel⟩
theorem scLSums : FnScope ["row", "delay", "on", "off", "clock"] ["row", "delay"] (defScope sLSums) := ⟨rfl, rfl, rfl, by decide +kernel, rfl, by decide +kernel, by decide +kernel⟩
/-- a comprehension whose values keep to what is told of each place -/
theorem lcPred {J : It} {n : Nat} {g : TG} {tt : TT} {te : TE} {vs : List Nat} {σ : L2.St} {H1 : Hp} {D : Addr} {Qd : Hp → Prop} (keep : Nat → Bool) (T : Nat → Hp → V → Prop) (hst : ∀ i H H' x, Same H H' → T i H x → T i H' x) (hup : ∀ i H x us ys, H D = some (.lst us) → T i H x → T i (upd H D (.lst ys)) x)
    (nD : H1 D = none) (hn : n ≤ 4000) (go : ∀ i H, i < n → Same H1 H → J.go i H) (stop : ∀ H, Same H1 H → J.stop n H)
    (turn : ∀ i x H H' (Qk : VK) (Qn : Hp → Prop), i < n → Same H1 H → (∃ us, H D = some (.lst us)) → J.yld i H x H' → (∀ y H4, keep i = true → T i H4 y → Same H H4 → Qk y H4) → (∀ H4, keep i = false → Same H H4 → Qn H4) → g x (wipe σ vs) H' fun σ2 H2 => wipe σ2 vs = wipe σ vs ∧ tt σ2 H2 fun b H3 => if b = true then te σ2 H3 Qk else Qn H3)
    (done : ∀ H ts, Same H1 H → H D = some (.lst ts) → Paired (fun x i => T i H x) ts ((List.range n).filter keep) → Qd H) :
    ∃ W : Nat → Nat → Hp → Prop, (∃ m, W 0 m (upd H1 D (.lst []))) ∧ ∀ i m H, W i m H →
      (J.stop i H ∧ Qd H) ∨ (J.go i H ∧ ∃ Nx : Hp → Prop, (∀ H', Nx H' → ∃ m', m' < m ∧ W (i + 1) m' H') ∧ ∀ x H', J.yld i H x H' → g x (wipe σ vs) H' fun σ2 H2 => wipe σ2 vs = wipe σ vs ∧ tt σ2 H2 fun b H3 =>
        if b = true then te σ2 H3 fun y H4 => ∃ acc, H4 D = some (.lst acc) ∧ acc.length < sizeLine ∧ Nx (upd H4 D (.lst (acc ++ [y]))) else Nx H3) := by
  refine ⟨fun i m H => m = n - i ∧ i ≤ n ∧ Same H1 H ∧ ∃ ts, H D = some (.lst ts) ∧ Paired (fun x i => T i H x) ts ((List.range i).filter keep), ⟨n, rfl, Nat.zero_le _, same_upd nD, [], upd_same, .nil⟩, ?_⟩
  rintro i m H ⟨rfl, hi, sm, ts, eD, pt⟩
  by_cases hlt : i < n
  · refine .inr ⟨go i H hlt sm, fun H' => Same H1 H' ∧ ∃ ts, H' D = some (.lst ts) ∧ Paired (fun x i => T i H' x) ts ((List.range (i + 1)).filter keep), fun H' p => ⟨n - (i + 1), by omega, rfl, hlt, p.1, p.2⟩, fun x H' y => ?_⟩
    refine turn i x H H' _ _ hlt sm ⟨ts, eD⟩ y (fun y H4 hk eT s4 => ⟨ts, s4 _ _ eD, ?_, fun b o e => ?_, _, upd_same, ?_⟩) (fun H4 hk s4 => ⟨sm.trans s4, ts, s4 _ _ eD, ?_⟩)
    · have h1 := pt.length
      have h2 := List.length_filter_le keep (List.range i)
      rw [List.length_range] at h2
      rw [sizeLine_eq]
      omega
    · rw [upd_ne (ne_of_none e nD)]
      exact s4 _ _ (sm _ _ e)
    · rw [List.range_succ, List.filter_append, List.filter_cons_of_pos hk]
      exact paired_snoc (paired_imp (fun x i h => hup i _ x _ _ (s4 _ _ eD) (hst i _ _ x s4 h)) pt) (hup i _ y _ _ (s4 _ _ eD) eT)
    · rw [List.range_succ, List.filter_append, List.filter_cons_of_neg (by rw [hk]; exact Bool.false_ne_true), List.filter_nil, List.append_nil]
      exact paired_imp (fun x i h => hst i _ _ x s4 h) pt
  · have e : i = n := by omega
    subst e
    exact .inl ⟨stop H sm, done H ts sm eD pt⟩
theorem paired_map {α β γ : Type} {F : α → γ → Prop} {g : β → γ} {xs : List α} {ys : List β} (p : Paired (fun x y => F x (g y)) xs ys) : Paired F xs (ys.map g) := by
  induction p with
  | nil => exact .nil
  | cons f _ ih => exact .cons f ih
theorem onS_sum (l : List Clk) : ((l.filter fun c => c.1).map fun c => ((c.2 : Nat) : Int)).sum = (onS l : Nat) := by
  induction l with
  | nil => rfl
  | cons c l ih =>
    obtain ⟨k, n⟩ := c
    cases k
    · rw [List.filter_cons_of_neg (by simp)]
      show _ = (((if false = true then n else 0) + onS l : Nat) : Int)
      rw [ih]
      simp
    · rw [List.filter_cons_of_pos (by rfl), List.map_cons, List.sum_cons, ih]
      rfl
theorem offS_sum (l : List Clk) : ((l.filter fun c => !c.1).map fun c => ((c.2 : Nat) : Int)).sum = (offS l : Nat) := by
  induction l with
  | nil => rfl
  | cons c l ih =>
    obtain ⟨k, n⟩ := c
    cases k
    · rw [List.filter_cons_of_pos (by rfl), List.map_cons, List.sum_cons, ih]
      rfl
    · rw [List.filter_cons_of_neg (by simp)]
      show _ = (((if true = true then 0 else n) + offS l : Nat) : Int)
      rw [ih]
      simp
def spLRules : Sp := fun vs H Q _ => ∃ (a : Addr) (l : List Clk), vs = [.ref a] ∧ RowT H a l ∧ l.length ≤ 100 ∧ ∀ D H' ts, Same H H' → H D = none → H' D = some (.lst ts) → TupsT H' ts ((placesL l).map (rlV l)) → Q (.ref D) H'
def spLListed : Sp := fun vs H Q _ => ∃ (a : Addr) (l : List Clk), vs = [.ref a] ∧ RowT H a l ∧ l.length ≤ 100 ∧ ∀ D H', Same H H' → H D = none → RowAt H' (.ref D) l → Q (.ref D) H'
def spLSums : Sp := fun vs H Q _ => ∃ (a : Addr) (d : Nat) (l : List Clk), vs = [.ref a, .int (d : Nat)] ∧ RowT H a l ∧ l.length ≤ 100 ∧ ∀ D H', Same H H' → H D = none → H' D = some (.lst [.int ((onS l + d : Nat)), .int ((offS l + d : Nat))]) → Q (.ref D) H'
section
variable {P : Program} {w : World} {K : PySem.W.Frag} {mg : Str → Option Value} {base : Heap}
theorem ok_llisted {f : Addr} {fd : FuncData} {k : Nat} (F : Fun K "_law_listed" "_law_listed" sLListed f fd) (B : Bl mg) : FnOk P w K mg base CX0 (k + 1) f fd ["row"] spLListed := by
  refine F.ok scLListed (fun vs H Q E h => ?_) (fun cdv A outer s H vs Q E hr h => ?_)
  · obtain ⟨a, l, rfl, _⟩ := h
    rfl
  · obtain ⟨a, l, rfl, ⟨xs, ha, pl⟩, hl, q⟩ := h
    refine ⟨_, pss_one (ps_ret (pe_lc (own := [("clock", 1)]) (g := gName 1) (tt := tYes) rfl scLListed.nd (pi_seq (pv 0)) (blkOk_by (own := [("clock", 1)]) (N := ["row", "clock"]) (sc := defScope sLListed) (by decide +kernel)) (fun _ _ _ _ _ => pg_name (i := 1) scLListed.nd rfl (Or.inl rfl)) (fun _ _ _ _ _ => pts_nil)
          (fun _ _ _ _ _ => pe_callTy (T := "list") (r := fun xs H Q => ∃ p ys, xs = [.ref p] ∧ (SqL K H p ys ∨ SqT K H p ys) ∧ ∀ l, H l = none → Q (.ref l) (upd H l (.lst ys))) call_list_of (by rfl) B.list (by decide +kernel) (pa_cons (pv 1) pa_nil)))), ?_⟩
    have lxs : xs.length = l.length := pl.length
    refine ⟨.ref a, rfl, a, xs, rfl, .inr ⟨sqT ha, fun D nD => ?_⟩⟩
    refine lcPred (n := xs.length) (fun _ => true) (fun i H x => ∃ b, b ≠ D ∧ x = .ref b ∧ H b = some (.lst (clkV (l.getD i (true, 0))))) (fun i H H' x s ⟨b, n, e, h⟩ => ⟨b, n, e, s _ _ h⟩) (fun i H x us ys _ ⟨b, n, e, h⟩ => ⟨b, n, e, by rw [upd_ne n]; exact h⟩) nD (by omega)
      (fun i H2 h s2 => ⟨xs, xs[i], sqT (s2 _ _ ha), List.getElem?_eq_getElem h⟩) (fun H2 s2 => ⟨xs, sqT (s2 _ _ ha), Nat.le_refl _⟩) (fun i x H2 H' Qk Qn hi s2 ⟨us, eD⟩ y hk _ => ?_) (fun H2 ts s2 eD pt => ?_)
    · obtain ⟨rfl, hx⟩ := y
      have hx := hx xs (sqT (s2 _ _ ha))
      obtain ⟨c, hc, b, rfl, hb⟩ := paired_get pl hx
      have hb2 := s2 _ _ hb
      rw [getD_at hc] at hk
      refine ⟨rfl, ?_⟩
      delta tYes
      refine iteT ⟨.ref b, rfl, b, _, rfl, .inr (sqT hb2), fun W nW => ?_⟩
      exact hk _ _ rfl ⟨W, (ne_of_none eD nW).symm, rfl, upd_same⟩ (same_upd nW)
    · refine q D H2 s2 nD ⟨D, ts, rfl, .inl eD, ?_, hl⟩
      rw [List.filter_eq_self.mpr (fun _ _ => rfl)] at pt
      have := paired_map (F := ClkAt H2) (g := fun i => l.getD i (true, 0)) (paired_imp (fun x i ⟨b, _, e, h⟩ => ⟨b, e, .inl h⟩) pt)
      rw [lxs, range_map_get] at this
      exact this
theorem ok_lsums {f : Addr} {fd : FuncData} {k : Nat} (F : Fun K "_law_sums" "_law_sums" sLSums f fd) (B : Bl mg) : FnOk P w K mg base CX0 (k + 1) f fd ["row", "delay"] spLSums := by
  refine F.ok scLSums (fun vs H Q E h => ?_) (fun cdv A outer s H vs Q EE hr h => ?_)
  · obtain ⟨a, d, l, rfl, _⟩ := h
    rfl
  · obtain ⟨a, d, l, rfl, ⟨xs, ha, pl⟩, hl, q⟩ := h
    refine ⟨_, pss_cons (ps_set (i := 2) scLSums.nd rfl (.inl rfl) (pe_callB (cr_sum rfl) (by rfl) B.sum (by decide +kernel) (pa_cons (pe_lc (own := [("clock", 4)]) (g := gName 4) (tt := tTest (tOp rEq (tOp (rIxT K) (tVar 4) (tC (.int 0))) (tC (.str "on")))) rfl scLSums.nd (pi_seq (pv 0)) (blkOk_by (own := [("clock", 4)]) (N := ["row", "delay", "on", "off", "clock"]) (sc := defScope sLSums) (by decide +kernel)) (fun _ _ _ _ _ => pg_name (i := 4) scLSums.nd rfl (Or.inl rfl))
          (fun _ _ _ _ _ => pts_one (pt_cmpR op_eq (pe_ix (r := rIxT K) ix_tup (pv 4) pe_int (fun _ _ => rfl)) pe_str (nomark _))) (fun _ _ _ _ _ => pe_ix (r := rIxT K) ix_tup (pv 4) pe_int (fun _ _ => rfl))) pa_nil)))
      (pss_cons (ps_set (i := 3) scLSums.nd rfl (.inl rfl) (pe_callB (cr_sum rfl) (by rfl) B.sum (by decide +kernel) (pa_cons (pe_lc (own := [("clock", 4)]) (g := gName 4) (tt := tTest (tOp rEq (tOp (rIxT K) (tVar 4) (tC (.int 0))) (tC (.str "off")))) rfl scLSums.nd (pi_seq (pv 0)) (blkOk_by (own := [("clock", 4)]) (N := ["row", "delay", "on", "off", "clock"]) (sc := defScope sLSums) (by decide +kernel)) (fun _ _ _ _ _ => pg_name (i := 4) scLSums.nd rfl (Or.inl rfl))
          (fun _ _ _ _ _ => pts_one (pt_cmpR op_eq (pe_ix (r := rIxT K) ix_tup (pv 4) pe_int (fun _ _ => rfl)) pe_str (nomark _))) (fun _ _ _ _ _ => pe_ix (r := rIxT K) ix_tup (pv 4) pe_int (fun _ _ => rfl))) pa_nil)))
      (pss_one (ps_ret (pe_lst (pa_cons (pe_op op_add (pv 2) (pv 1)) (pa_cons (pe_op op_add (pv 3) (pv 1)) pa_nil)))))), ?_⟩
    have lxs : xs.length = l.length := pl.length
    have HBD : Same H H := Same.refl _
    refine ⟨.ref a, rfl, a, xs, rfl, .inr ⟨sqT ha, fun D nD => ?_⟩⟩
    refine lcGen (n := xs.length) (fun i => (l.getD i (true, 0)).1) (fun i => .int (((l.getD i (true, 0)).2 : Nat))) nD (by omega) (fun i H2 h s2 => ⟨xs, xs[i], sqT (s2 _ _ ha), List.getElem?_eq_getElem h⟩) (fun H2 s2 => ⟨xs, sqT (s2 _ _ ha), Nat.le_refl _⟩) (fun i x H2 H' Qk Qn hi s2 y hk hn => ?_) (fun HD sD eD => ?_)
    · obtain ⟨rfl, hx⟩ := y
      have hx := hx xs (sqT (s2 _ _ ha))
      obtain ⟨c, hc, b, rfl, hb⟩ := paired_get pl hx
      have hb2 := s2 _ _ (HBD _ _ hb)
      rw [getD_at hc] at hk hn
      refine ⟨rfl, .ref b, rfl, b, _, 0, .str (kn c.1), rfl, rfl, sqT hb2, atI_nat (j := 0) rfl, rfl, _, rfl, ?_⟩
      obtain ⟨k, n⟩ := c
      cases k
      · refine iteFq (show decide (V.str (kn false) = V.str "on") = false by decide) (hn _ (Same.refl _) rfl)
      · refine iteTq (show decide (V.str (kn true) = V.str "on") = true by decide) ⟨.ref b, rfl, b, _, 1, .int (n : Nat), rfl, rfl, sqT hb2, atI_nat (j := 1) rfl, hk _ (Same.refl _) rfl⟩
    rw [lxs] at eD
    have e1 : ((List.range l.length).filter fun i => (l.getD i (true, 0)).1).map (fun i => V.int (((l.getD i (true, 0)).2 : Nat))) = ((l.filter fun c => c.1).map fun c => ((c.2 : Nat) : Int)).map V.int := by
      rw [← idx_filter l (true, 0), List.map_map, List.map_map]
      rfl
    rw [e1] at eD
    refine ⟨D, _, rfl, sqL eD, ?_⟩
    rw [onS_sum]
    have HBE : Same H HD := sD
    have ha2 := sD _ _ ha
    refine ⟨.ref a, rfl, a, xs, rfl, .inr ⟨sqT ha2, fun E nE => ?_⟩⟩
    refine lcGen (n := xs.length) (fun i => !(l.getD i (true, 0)).1) (fun i => .int (((l.getD i (true, 0)).2 : Nat))) nE (by omega) (fun i H2 h s2 => ⟨xs, xs[i], sqT (s2 _ _ ha2), List.getElem?_eq_getElem h⟩) (fun H2 s2 => ⟨xs, sqT (s2 _ _ ha2), Nat.le_refl _⟩) (fun i x H2 H' Qk Qn hi s2 y hk hn => ?_) (fun HE sE eE => ?_)
    · obtain ⟨rfl, hx⟩ := y
      have hx := hx xs (sqT (s2 _ _ ha2))
      obtain ⟨c, hc, b, rfl, hb⟩ := paired_get pl hx
      have hb2 := s2 _ _ (HBE _ _ hb)
      rw [getD_at hc] at hk hn
      refine ⟨rfl, .ref b, rfl, b, _, 0, .str (kn c.1), rfl, rfl, sqT hb2, atI_nat (j := 0) rfl, rfl, _, rfl, ?_⟩
      obtain ⟨k, n⟩ := c
      cases k
      · refine iteTq (show decide (V.str (kn false) = V.str "off") = true by decide) ⟨.ref b, rfl, b, _, 1, .int (n : Nat), rfl, rfl, sqT hb2, atI_nat (j := 1) rfl, hk _ (Same.refl _) rfl⟩
      · refine iteFq (show decide (V.str (kn true) = V.str "off") = false by decide) (hn _ (Same.refl _) rfl)
    rw [lxs] at eE
    have e2 : ((List.range l.length).filter fun i => !(l.getD i (true, 0)).1).map (fun i => V.int (((l.getD i (true, 0)).2 : Nat))) = ((l.filter fun c => !c.1).map fun c => ((c.2 : Nat) : Int)).map V.int := by
      rw [← idx_filter l (true, 0), List.map_map, List.map_map]
      rfl
    rw [e2] at eE
    refine ⟨E, _, rfl, sqL eE, ?_⟩
    rw [offS_sum]
    refine ⟨.int (onS l : Nat), rfl, .int (d : Nat), rfl, _, _, rfl, rfl, .int (offS l : Nat), rfl, .int (d : Nat), rfl, _, _, rfl, rfl, by show 2 ≤ sizeLine; decide, fun Z nZ => ?_⟩
    exact q Z _ ((sD.trans sE).trans (same_upd nZ)) (none_of_same (sD.trans sE) nZ) upd_same
end
end K7

set_option Elab.async false
set_option linter.all false
set_option maxRecDepth 100000
set_option maxHeartbeats 4000000
namespace K7
open PySem PySem.Spec PyProof.Rows L2 GX NdefX K24
theorem scLBehind : FnScope ["row", "delay", "place", "rule", "ahead", "kind", "number", "middle", "last"] ["row", "delay", "place", "rule"] (defScope sLBehind) := ⟨rfl, rfl, rfl, by decide +kernel, rfl, by decide +kernel, by decide +kernel⟩
section
variable {P : Program} {w : World} {K : PySem.W.Frag} {mg : Str → Option Value} {base : Heap}
theorem ok_lrules {f fA : Addr} {fd fdA : FuncData} {k : Nat} (F : Fun K "_law_rules" "_law_rules" sLRules f fd) (B : Bl mg) (FA : Fun K "_law_rule" "_law_rule" sLRule fA fdA) (bA : Binds K fdA ["row", "place"] []) (gA : mg "_law_rule" = some (.ref fA)) : FnOk P w K mg base CX0 (k + 2) f fd ["row"] spLRules := by
  have GA : FnOk P w K mg base CX0 (k + 1) fA fdA ["row", "place"] spLRule := ok_lrule FA B
  refine F.ok scLRules (fun vs H Q E h => ?_) (fun cdv A outer s H vs Q E hr h => ?_)
  · obtain ⟨a, l, rfl, _⟩ := h
    rfl
  · obtain ⟨a, l, rfl, hrow, hl, q⟩ := h
    refine ⟨_, pss_cons (ps_setLc (i := 1) (own := [("place", 2)]) (g := gName 2) (tt := tYes) rfl scLRules.nd rfl rfl (sw_true rfl rfl rfl (by decide +kernel)) (pi_range1 (by rfl) B.range (pa_cons (pe_callB call_len (by rfl) B.len PySem.boot_len (pa_cons (pv 0) pa_nil)) pa_nil)) (blkOk_by (own := [("place", 2)]) (N := ["row", "found", "place", "pair"]) (sc := defScope sLRules) (by decide +kernel)) (fun _ _ _ _ _ => pg_name (i := 2) scLRules.nd rfl (Or.inl rfl))
        (fun _ _ _ _ _ => pts_nil) (fun _ _ _ _ _ => pe_tup (pa_cons (pv 2) (pa_cons (pe_call GA hr (by rfl) gA FA.kp bA .nil pass0 (pa_cons (pv 0) (pa_cons (pv 2) pa_nil))) pa_nil))))
      (pss_one (ps_ret (pe_lc (own := [("pair", 3)]) (g := gName 3) (tt := tTest (tOp rNe (tOp (rIxT K) (tVar 3) (tC (.int 1))) (tC (.str "")))) rfl scLRules.nd (pi_list (pv 1)) (blkOk_by (own := [("pair", 3)]) (N := ["row", "found", "place", "pair"]) (sc := defScope sLRules) (by decide +kernel)) (fun _ _ _ _ _ => pg_name (i := 3) scLRules.nd rfl (Or.inl rfl))
        (fun _ _ _ _ _ => pts_one (pt_cmpR op_ne (pe_ix (r := rIxT K) ix_tup (pv 3) pe_int (fun _ _ => rfl)) pe_str (nomark _))) (fun _ _ _ _ _ => pv 3)))), ?_⟩
    have len : ∀ H', Same H H' → LenV K (.ref a) H' l.length := fun H' s => by
      obtain ⟨xs, e, p⟩ := hrow.same s
      exact .inr ⟨_, sqT e, p.length.symm⟩
    refine ⟨.ref a, rfl, .ref a, l.length, rfl, len H (Same.refl _), (l.length : Nat), rfl, by omega, by omega, fun D nD => ?_⟩
    refine lcTupK (n := l.length) (fun _ => true) (fun i => [.int (i : Nat), .str (ruL (ruleL (l.drop i)))]) nD (by omega) (fun i H2 h s => by show i < ((l.length : Nat) : Int).toNat; omega) (fun H2 s => by show ((l.length : Nat) : Int).toNat ≤ l.length; omega) (fun i x H2 H' Qk Qn hi s2 y hT hF => ?_) (fun H2 ts s2 e2 pt => ?_)
    · obtain ⟨rfl, rfl⟩ := y
      rw [show (0 : Int) + (i : Int) = ((i : Nat) : Int) by omega]
      refine ⟨rfl, ?_⟩
      delta tYes
      refine iteT ⟨.int (i : Nat), rfl, .ref a, rfl, .int (i : Nat), rfl, a, i, l, rfl, hrow.same s2, hi, hl, by show 2 ≤ sizeLine; decide, fun T nT => ?_⟩
      exact hT _ _ rfl ⟨T, rfl, upd_same⟩ (same_upd nT)
    · rw [List.filter_eq_self.mpr (fun _ _ => rfl)] at pt
      have lts : ts.length = l.length := by rw [pt.length, List.length_map, List.length_range]
      refine ⟨.ref D, rfl, D, rfl, ⟨ts, sqL e2⟩, fun E1 nE => ?_⟩
      refine lcTupK (n := ts.length) (fun i => (ruleL (l.drop i)).isSome) (rlV l) nE (by omega) (fun i H3 h s3 => ⟨ts, ts[i], sqL (s3 _ _ e2), List.getElem?_eq_getElem h⟩) (fun H3 s3 => ⟨ts, sqL (s3 _ _ e2), Nat.le_refl _⟩) (fun i x H3 H' Qk Qn hi s3 y hT hF => ?_) (fun H3 us s3 e3 pu => ?_)
      · obtain ⟨rfl, hx⟩ := y
        have hx := hx ts (sqL (s3 _ _ e2))
        obtain ⟨vs, b, hv, rfl, hb⟩ := tups_got (pt.same s3) hx
        rw [List.getElem?_map, List.getElem?_range (by omega)] at hv
        cases hv
        refine ⟨rfl, .ref b, rfl, b, _, 1, _, rfl, rfl, sqT hb, atI_nat (j := 1) rfl, rfl, _, rfl, ?_⟩
        cases hr : ruleL (l.drop i) with
        | none => exact iteFq (by decide) (hF _ (by rw [hr]; rfl) (Same.refl _))
        | some r =>
          refine iteTq (by cases r <;> decide) ⟨.ref b, rfl, ?_⟩
          refine hT _ _ (by rw [hr]; rfl) ⟨b, rfl, ?_⟩ (Same.refl _)
          rw [hb]
          unfold rlV
          show some (HO.tup [V.int (i : Nat), V.str (ruL (ruleL (l.drop i)))]) = _
          rw [hr]
          rfl
      · rw [lts] at pu
        exact q E1 H3 us (s2.trans s3) (none_of_same s2 nE) e3 pu
end
end K7

set_option Elab.async false
set_option linter.all false
set_option maxRecDepth 100000
set_option maxHeartbeats 4000000
namespace K7
open PySem PySem.Spec PyProof.Rows L2 GX NdefX K24
section
variable {P : Program} {w : World} {K : PySem.W.Frag} {mg : Str → Option Value} {base : Heap}
theorem ok_lbehind {f : Addr} {fd : FuncData} {k : Nat} (F : Fun K "_law_behind" "_law_behind" sLBehind f fd) (B : Bl mg) : FnOk P w K mg base CX0 (k + 1) f fd ["row", "delay", "place", "rule"] spUsed := by
  refine F.ok scLBehind (fun vs H Q E h => ?_) (fun cdv A outer s H vs Q E hr h => ?_)
  · obtain ⟨a, d, p, r, l, rfl, _⟩ := h
    rfl
  · obtain ⟨a, d, p, r, l, rfl, ⟨xs, ha, pl⟩, hl, hrule, q⟩ := h
    refine ⟨_, (pss_cons (ps_set (i := 4) scLBehind.nd rfl (.inl rfl) (pe_slice sl_tupA (pv 0) po_none (po_some (pv 2))))
        (pss_cons (ps_asg (pe_ix (r := rIxT K) ix_tup (pv 0) (pv 2) (fun _ _ => rfl)) (pg_tup rfl (pgs_cons (pg_name (i := 5) scLBehind.nd rfl (Or.inl rfl)) (pgs_cons (pg_name (i := 6) scLBehind.nd rfl (Or.inl rfl)) pgs_nil))))
        (pss_cons (ps_if (pt_cmpR op_eq (pv 3) pe_str (nomark _)) (pss_one (ps_ret (pe_tup (pa_cons (pe_op op_catA (pv 4) (pe_slice sl_tupA (pv 0) (po_some (pe_op op_add (pv 2) pe_int)) po_none)) (pa_cons (pv 1) pa_nil))))) pss_nil)
        (pss_cons (ps_if (pt_cmpR op_eq (pv 3) pe_str (nomark _)) (pss_one (ps_ret (pe_tup (pa_cons (pe_op op_catA (pe_op op_catA (pv 4) (pe_tup (pa_cons (pe_tup (pa_cons (pv 5) (pa_cons (pe_op op_add (pv 6) (pe_ix (r := rIxT K) ix_tup (pe_ix (r := rIxT K) ix_tup (pv 0) (pe_op op_add (pv 2) pe_int) (fun _ _ => rfl)) pe_int (fun _ _ => rfl))) pa_nil))) pa_nil))) (pe_slice sl_tupA (pv 0) (po_some (pe_op op_add (pv 2) pe_int)) po_none)) (pa_cons (pv 1) pa_nil))))) pss_nil)
        (pss_cons (ps_set (i := 7) scLBehind.nd rfl (.inl rfl) (pe_ix (r := rIxT K) ix_tup (pe_ix (r := rIxT K) ix_tup (pv 0) (pe_op op_add (pv 2) pe_int) (fun _ _ => rfl)) pe_int (fun _ _ => rfl)))
        (pss_cons (ps_set (i := 8) scLBehind.nd rfl (.inl rfl) (pe_ix (r := rIxT K) ix_tup (pe_ix (r := rIxT K) ix_tup (pv 0) (pe_op op_add (pv 2) pe_int) (fun _ _ => rfl)) pe_int (fun _ _ => rfl)))
        (pss_cons (ps_if (pt_cmpR op_eq (pv 3) pe_str (nomark _)) (pss_one (ps_ret (pe_tup (pa_cons (pe_op op_catA (pe_op op_catA (pv 4) (pe_tup (pa_cons (pe_tup (pa_cons (pv 5) (pa_cons (pe_op op_sub (pe_op op_add (pv 6) (pv 8)) (pv 7)) pa_nil))) pa_nil))) (pe_slice sl_tupA (pv 0) (po_some (pe_op op_add (pv 2) pe_int)) po_none)) (pa_cons (pe_op op_add (pv 1) (pv 7)) pa_nil))))) pss_nil)
        (pss_one (ps_ret (pe_tup (pa_cons (pe_op op_catA (pe_op op_catA (pv 4) (pe_tup (pa_cons (pe_tup (pa_cons (pv 5) (pa_cons (pv 6) pa_nil))) (pa_cons (pe_tup (pa_cons (pe_ix (r := rIxT K) ix_tup (pe_ix (r := rIxT K) ix_tup (pv 0) (pe_op op_add (pv 2) pe_int) (fun _ _ => rfl)) pe_int (fun _ _ => rfl)) (pa_cons (pe_op op_sub (pv 7) (pv 8)) pa_nil))) pa_nil)))) (pe_slice sl_tupA (pv 0) (po_some (pe_op op_add (pv 2) pe_int)) po_none)) (pa_cons (pe_op op_add (pv 1) (pv 8)) pa_nil)))))))))))), ?_⟩
    have lxs : xs.length = l.length := pl.length
    have hget : ∀ j c, (l.drop p)[j]? = some c → ∃ b, xs[p + j]? = some (.ref b) ∧ H b = some (.tup (clkV c)) := fun j c h => by
      rw [List.getElem?_drop] at h
      exact clks_got pl h
    have hdr : ∀ j, l.drop (p + j) = (l.drop p).drop j := fun j => by rw [List.drop_drop]
    rcases rule_form hrule with ⟨k, l', hd, rfl⟩ | ⟨k, n0, n1, l', hd, rfl, _⟩ | ⟨k, n0, n1, n2, l', hd, rfl, c1, c2, _⟩ | ⟨k, n0, n1, n2, l', hd, rfl, c1, c2, _⟩
    · obtain ⟨b0, x0, h0⟩ := hget 0 (k, 0) (by rw [hd]; rfl)
      rw [Nat.add_zero] at x0
      refine ⟨.ref a, rfl, .int (p : Nat), rfl, ((p : Nat) : Int), rfl, slA ha fun S1 H1 s1 e1 => ?_⟩
      rw [cut_to] at e1
      refine ⟨.ref a, rfl, .int (p : Nat), rfl, a, xs, _, .ref b0, rfl, rfl, sqT (s1 _ _ ha), atI_nat x0, b0, _, rfl, sqT (s1 _ _ h0), rfl, .str (kn k), _, rfl, .int (0 : Nat), _, rfl, rfl, ?_⟩
      refine ⟨.str "nothing", rfl, rfl, _, rfl, iteTq (by decide) ?_⟩
      refine ⟨.ref S1, rfl, .ref a, rfl, .int (p : Nat), rfl, _, 1, rfl, rfl, _, rfl, ?_⟩
      (try delta tNoPart)
      refine slA (s1 _ _ ha) fun S2 H2 s2 e2 => ?_
      rw [show ((p : Nat) : Int) + 1 = ((p + 1 : Nat) : Int) from rfl, cut_from] at e2
      refine catA (s2 _ _ e1) e2 (by rw [List.length_take, List.length_drop]; omega) fun S4 H4 s4 e4 => ?_
      have s04 := s1.trans (s2.trans s4)
      refine ⟨.int (d : Nat), rfl, by show 2 ≤ sizeLine; decide, fun T nT => ?_⟩
      have sT := same_upd nT (o := .tup [.ref S4, .int (d : Nat)])
      have pk := ClksT.same (s04.trans sT) pl
      refine q T _ S4 (s04.trans sT) (none_of_same s04 nT) (by rw [upd_same]; unfold useAt; rw [hd]; rfl) ⟨_, sT _ _ e4, ?_⟩
      show ClksT _ (xs.take p ++ xs.drop (p + 1)) (l.take p ++ (useL .nothing (l.drop p)).1)
      have e5 : (useL .nothing (l.drop p)).1 = l.drop (p + 1) := by
        rw [hdr 1, hd]
        rfl
      rw [e5]
      exact paired_app (paired_take pk _).1 (paired_take pk _).2
    · obtain ⟨b0, x0, h0⟩ := hget 0 (k, n0) (by rw [hd]; rfl)
      rw [Nat.add_zero] at x0
      obtain ⟨b1, x1, h1⟩ := hget 1 (k, n1) (by rw [hd]; rfl)
      have hp2 : p + 1 < l.length := by
        have := congrArg List.length hd
        rw [List.length_drop, List.length_cons, List.length_cons] at this
        omega
      refine ⟨.ref a, rfl, .int (p : Nat), rfl, ((p : Nat) : Int), rfl, slA ha fun S1 H1 s1 e1 => ?_⟩
      rw [cut_to] at e1
      refine ⟨.ref a, rfl, .int (p : Nat), rfl, a, xs, _, .ref b0, rfl, rfl, sqT (s1 _ _ ha), atI_nat x0, b0, _, rfl, sqT (s1 _ _ h0), rfl, .str (kn k), _, rfl, .int (n0 : Nat), _, rfl, rfl, ?_⟩
      refine ⟨.str "added", rfl, rfl, _, rfl, iteFq (by decide) ?_⟩
      refine ⟨.str "added", rfl, rfl, _, rfl, iteTq (by decide) ?_⟩
      refine ⟨.ref S1, rfl, .str (kn k), rfl, .int (n0 : Nat), rfl, .ref a, rfl, .int (p : Nat), rfl, _, 1, rfl, rfl, a, xs, _, .ref b1, rfl, rfl, sqT (s1 _ _ ha), atI_nat (j := p + 1) x1, b1, _, 1, .int (n1 : Nat), rfl, rfl, sqT (s1 _ _ h1), atI_nat (j := 1) rfl, _, _, rfl, rfl, by show 2 ≤ sizeLine; decide, fun R nR => ⟨by show 1 ≤ sizeLine; decide, fun B nB => ?_⟩⟩
      have sR := same_upd nR (o := .tup [.str (kn k), .int ((n0 : Nat) + (n1 : Nat))])
      have sB := same_upd nB (o := .tup [.ref R])
      refine catA ((sR.trans sB) _ _ e1) upd_same (by rw [List.length_take]; show min _ _ + 1 ≤ 1000; omega) fun S2 H2 s2 e2 => ?_
      have s02 := s1.trans (sR.trans (sB.trans s2))
      refine ⟨.ref a, rfl, .int (p : Nat), rfl, _, 2, rfl, rfl, _, rfl, ?_⟩
      (try delta tNoPart)
      refine slA (s02 _ _ ha) fun S3 H3 s3 e3 => ?_
      rw [show ((p : Nat) : Int) + 2 = ((p + 2 : Nat) : Int) from rfl, cut_from] at e3
      refine catA (s3 _ _ e2) e3 (by rw [List.length_append, List.length_take, List.length_drop]; show min _ _ + 1 + (_ - _) ≤ 1000; omega) fun S4 H4 s4 e4 => ?_
      have s04 := s02.trans (s3.trans s4)
      refine ⟨.int (d : Nat), rfl, by show 2 ≤ sizeLine; decide, fun T nT => ?_⟩
      have hde : (useAt .added l d p).2 = d := by
        unfold useAt
        rw [hd]
        rfl
      have sT := same_upd nT (o := .tup [.ref S4, .int ((d : Nat))])
      have hR : H4 R = some (.tup [.str (kn k), .int ((n0 : Nat) + (n1 : Nat))]) := s4 _ _ (s3 _ _ (s2 _ _ (sB _ _ upd_same)))
      refine q T _ S4 (s04.trans sT) (none_of_same s04 nT) (by rw [upd_same, hde] <;> rfl) ⟨_, sT _ _ e4, ?_⟩
      show ClksT _ ((xs.take (p) ++ [.ref R]) ++ xs.drop (p + 2)) (l.take p ++ (useL .added (l.drop p)).1)
      have e5 : l.take p ++ (useL .added (l.drop p)).1 = (l.take (p) ++ [(k, n0 + n1)]) ++ l.drop (p + 2) := by
        rw [hdr 2, hd]
        simp [useL]
      rw [e5]
      have pk := ClksT.same (s04.trans sT) pl
      refine paired_app (paired_app (paired_take pk _).1 (.cons ⟨R, rfl, ?_⟩ .nil)) (paired_take pk _).2
      rw [sT _ _ hR]
      rfl
    · obtain ⟨b0, x0, h0⟩ := hget 0 (k, n0) (by rw [hd]; rfl)
      rw [Nat.add_zero] at x0
      obtain ⟨b1, x1, h1⟩ := hget 1 (!k, n1) (by rw [hd]; rfl)
      obtain ⟨b2, x2, h2⟩ := hget 2 (k, n2) (by rw [hd]; rfl)
      have hp2 : p + 2 < l.length := by
        have := congrArg List.length hd
        rw [List.length_drop, List.length_cons, List.length_cons, List.length_cons] at this
        omega
      refine ⟨.ref a, rfl, .int (p : Nat), rfl, ((p : Nat) : Int), rfl, slA ha fun S1 H1 s1 e1 => ?_⟩
      rw [cut_to] at e1
      refine ⟨.ref a, rfl, .int (p : Nat), rfl, a, xs, _, .ref b0, rfl, rfl, sqT (s1 _ _ ha), atI_nat x0, b0, _, rfl, sqT (s1 _ _ h0), rfl, .str (kn k), _, rfl, .int (n0 : Nat), _, rfl, rfl, ?_⟩
      refine ⟨.str "swing", rfl, rfl, _, rfl, iteFq (by decide) ?_⟩
      refine ⟨.str "swing", rfl, rfl, _, rfl, iteFq (by decide) ?_⟩
      refine ⟨.ref a, rfl, .int (p : Nat), rfl, _, 1, rfl, rfl, a, xs, _, .ref b1, rfl, rfl, sqT (s1 _ _ ha), atI_nat (j := p + 1) x1, b1, _, 1, .int (n1 : Nat), rfl, rfl, sqT (s1 _ _ h1), atI_nat (j := 1) rfl, ?_⟩
      refine ⟨.ref a, rfl, .int (p : Nat), rfl, _, 2, rfl, rfl, a, xs, _, .ref b2, rfl, rfl, sqT (s1 _ _ ha), atI_nat (j := p + 2) x2, b2, _, 1, .int (n2 : Nat), rfl, rfl, sqT (s1 _ _ h2), atI_nat (j := 1) rfl, ?_⟩
      refine ⟨.str "swing", rfl, rfl, _, rfl, iteTq (by decide) ?_⟩
      refine ⟨.ref S1, rfl, .str (kn k), rfl, .int (n0 : Nat), rfl, .int (n2 : Nat), rfl, _, _, rfl, rfl, .int (n1 : Nat), rfl, _, _, rfl, rfl, by show 2 ≤ sizeLine; decide, fun R nR => ⟨by show 1 ≤ sizeLine; decide, fun B nB => ?_⟩⟩
      have sR := same_upd nR (o := .tup [.str (kn k), .int ((n0 : Nat) + (n2 : Nat) - (n1 : Nat))])
      have sB := same_upd nB (o := .tup [.ref R])
      refine catA ((sR.trans sB) _ _ e1) upd_same (by rw [List.length_take]; show min _ _ + 1 ≤ 1000; omega) fun S2 H2 s2 e2 => ?_
      have s02 := s1.trans (sR.trans (sB.trans s2))
      refine ⟨.ref a, rfl, .int (p : Nat), rfl, _, 3, rfl, rfl, _, rfl, ?_⟩
      (try delta tNoPart)
      refine slA (s02 _ _ ha) fun S3 H3 s3 e3 => ?_
      rw [show ((p : Nat) : Int) + 3 = ((p + 3 : Nat) : Int) from rfl, cut_from] at e3
      refine catA (s3 _ _ e2) e3 (by rw [List.length_append, List.length_take, List.length_drop]; show min _ _ + 1 + (_ - _) ≤ 1000; omega) fun S4 H4 s4 e4 => ?_
      have s04 := s02.trans (s3.trans s4)
      refine ⟨.int (d : Nat), rfl, .int (n1 : Nat), rfl, _, _, rfl, rfl, by show 2 ≤ sizeLine; decide, fun T nT => ?_⟩
      have hde : (useAt .swing l d p).2 = d + n1 := by
        unfold useAt
        rw [hd]
        rfl
      have sT := same_upd nT (o := .tup [.ref S4, .int (((d : Nat) : Int) + ((n1 : Nat) : Int))])
      have hR : H4 R = some (.tup [.str (kn k), .int ((n0 : Nat) + (n2 : Nat) - (n1 : Nat))]) := s4 _ _ (s3 _ _ (s2 _ _ (sB _ _ upd_same)))
      refine q T _ S4 (s04.trans sT) (none_of_same s04 nT) (by rw [upd_same, hde] <;> rfl) ⟨_, sT _ _ e4, ?_⟩
      show ClksT _ ((xs.take (p) ++ [.ref R]) ++ xs.drop (p + 3)) (l.take p ++ (useL .swing (l.drop p)).1)
      have e5 : l.take p ++ (useL .swing (l.drop p)).1 = (l.take (p) ++ [(k, n0 + n2 - n1)]) ++ l.drop (p + 3) := by
        rw [hdr 3, hd]
        simp [useL]
      rw [e5]
      have pk := ClksT.same (s04.trans sT) pl
      refine paired_app (paired_app (paired_take pk _).1 (.cons ⟨R, rfl, ?_⟩ .nil)) (paired_take pk _).2
      rw [sT _ _ hR]
      refine congrArg (fun z => some (HO.tup [V.str (kn k), V.int z])) ?_
      omega
    · obtain ⟨b0, x0, h0⟩ := hget 0 (k, n0) (by rw [hd]; rfl)
      rw [Nat.add_zero] at x0
      obtain ⟨b1, x1, h1⟩ := hget 1 (!k, n1) (by rw [hd]; rfl)
      obtain ⟨b2, x2, h2⟩ := hget 2 (k, n2) (by rw [hd]; rfl)
      have hp2 : p + 2 < l.length := by
        have := congrArg List.length hd
        rw [List.length_drop, List.length_cons, List.length_cons, List.length_cons] at this
        omega
      refine ⟨.ref a, rfl, .int (p : Nat), rfl, ((p : Nat) : Int), rfl, slA ha fun S1 H1 s1 e1 => ?_⟩
      rw [cut_to] at e1
      refine ⟨.ref a, rfl, .int (p : Nat), rfl, a, xs, _, .ref b0, rfl, rfl, sqT (s1 _ _ ha), atI_nat x0, b0, _, rfl, sqT (s1 _ _ h0), rfl, .str (kn k), _, rfl, .int (n0 : Nat), _, rfl, rfl, ?_⟩
      refine ⟨.str "tail", rfl, rfl, _, rfl, iteFq (by decide) ?_⟩
      refine ⟨.str "tail", rfl, rfl, _, rfl, iteFq (by decide) ?_⟩
      refine ⟨.ref a, rfl, .int (p : Nat), rfl, _, 1, rfl, rfl, a, xs, _, .ref b1, rfl, rfl, sqT (s1 _ _ ha), atI_nat (j := p + 1) x1, b1, _, 1, .int (n1 : Nat), rfl, rfl, sqT (s1 _ _ h1), atI_nat (j := 1) rfl, ?_⟩
      refine ⟨.ref a, rfl, .int (p : Nat), rfl, _, 2, rfl, rfl, a, xs, _, .ref b2, rfl, rfl, sqT (s1 _ _ ha), atI_nat (j := p + 2) x2, b2, _, 1, .int (n2 : Nat), rfl, rfl, sqT (s1 _ _ h2), atI_nat (j := 1) rfl, ?_⟩
      refine ⟨.str "tail", rfl, rfl, _, rfl, iteFq (by decide) ?_⟩
      refine ⟨.ref S1, rfl, .str (kn k), rfl, .int (n0 : Nat), rfl, by show 2 ≤ sizeLine; decide, fun R nR => ?_⟩
      have sR := same_upd nR (o := .tup [.str (kn k), .int (n0 : Nat)])
      refine ⟨.ref a, rfl, .int (p : Nat), rfl, _, 1, rfl, rfl, a, xs, _, .ref b1, rfl, rfl, sqT ((s1.trans sR) _ _ ha), atI_nat (j := p + 1) x1, b1, _, 0, .str (kn (!k)), rfl, rfl, sqT ((s1.trans sR) _ _ h1), atI_nat (j := 0) rfl, .int (n1 : Nat), rfl, .int (n2 : Nat), rfl, _, _, rfl, rfl, by show 2 ≤ sizeLine; decide, fun R2 nR2 => ⟨by show 2 ≤ sizeLine; decide, fun B nB => ?_⟩⟩
      have sR2 := same_upd nR2 (o := .tup [.str (kn (!k)), .int ((n1 : Nat) - (n2 : Nat))])
      have sB := same_upd nB (o := .tup [.ref R, .ref R2])
      refine catA ((sR.trans (sR2.trans sB)) _ _ e1) upd_same (by rw [List.length_take]; show min _ _ + 2 ≤ 1000; omega) fun S2 H2 s2 e2 => ?_
      have s02 := s1.trans (sR.trans (sR2.trans (sB.trans s2)))
      refine ⟨.ref a, rfl, .int (p : Nat), rfl, _, 3, rfl, rfl, _, rfl, ?_⟩
      (try delta tNoPart)
      refine slA (s02 _ _ ha) fun S3 H3 s3 e3 => ?_
      rw [show ((p : Nat) : Int) + 3 = ((p + 3 : Nat) : Int) from rfl, cut_from] at e3
      refine catA (s3 _ _ e2) e3 (by rw [List.length_append, List.length_take, List.length_drop]; show min _ _ + 2 + (_ - _) ≤ 1000; omega) fun S4 H4 s4 e4 => ?_
      have s04 := s02.trans (s3.trans s4)
      refine ⟨.int (d : Nat), rfl, .int (n2 : Nat), rfl, _, _, rfl, rfl, by show 2 ≤ sizeLine; decide, fun T nT => ?_⟩
      have hde : (useAt .tail l d p).2 = d + n2 := by
        unfold useAt
        rw [hd]
        rfl
      have sT := same_upd nT (o := .tup [.ref S4, .int (((d : Nat) : Int) + ((n2 : Nat) : Int))])
      have hR : H4 R = some (.tup [.str (kn k), .int (n0 : Nat)]) := s4 _ _ (s3 _ _ (s2 _ _ (sB _ _ (sR2 _ _ upd_same))))
      have hR2 : H4 R2 = some (.tup [.str (kn (!k)), .int ((n1 : Nat) - (n2 : Nat))]) := s4 _ _ (s3 _ _ (s2 _ _ (sB _ _ upd_same)))
      refine q T _ S4 (s04.trans sT) (none_of_same s04 nT) (by rw [upd_same, hde] <;> rfl) ⟨_, sT _ _ e4, ?_⟩
      show ClksT _ ((xs.take (p) ++ [.ref R, .ref R2]) ++ xs.drop (p + 3)) (l.take p ++ (useL .tail (l.drop p)).1)
      have e5 : l.take p ++ (useL .tail (l.drop p)).1 = (l.take (p) ++ [(k, n0), (!k, n1 - n2)]) ++ l.drop (p + 3) := by
        rw [hdr 3, hd]
        simp [useL]
      rw [e5]
      have pk := ClksT.same (s04.trans sT) pl
      refine paired_app (paired_app (paired_take pk _).1 (.cons ⟨R, rfl, ?_⟩ (.cons ⟨R2, rfl, ?_⟩ .nil))) (paired_take pk _).2
      · rw [sT _ _ hR]
        rfl
      · rw [sT _ _ hR2]
        refine congrArg (fun z => some (HO.tup [V.str (kn (!k)), V.int z])) ?_
        omega
end
end K7

set_option Elab.async false
set_option linter.all false
set_option maxRecDepth 100000
set_option maxHeartbeats 4000000
namespace K7
open PySem PySem.Spec PyProof.Rows L2 GX NdefX K24
theorem scLPair : FnScope ["told", "due", "clock"] ["told", "due"] (defScope sLPair) := ⟨rfl, rfl, rfl, by decide +kernel, rfl, by decide +kernel, by decide +kernel⟩
theorem scLFirst : FnScope ["row", "delay", "rules", "simple", "pair", "chosen"] ["row", "delay", "rules"] (defScope sLFirst) := ⟨rfl, rfl, rfl, by decide +kernel, rfl, by decide +kernel, by decide +kernel⟩
/-! ### rows as data -/
def clkD (c : Clk) : PyData := .tuple [.str (kn c.1), .int (c.2 : Nat)]
def rowD (l : List Clk) : PyData := .tuple (l.map clkD)
def pairD (l : List Clk) (d : Nat) : PyData := .tuple [rowD l, .int (d : Nat)]
def tripD (l : List Clk) (d : Nat) (r : Ru) : PyData := .tuple [rowD l, .int (d : Nat), .str (ruN r)]
theorem dp_clk {K : PySem.W.Frag} {H : Hp} {x : V} {c : Clk} (h : ClkT H x c) : Dp K H x (clkD c) := by
  obtain ⟨a, rfl, e⟩ := h
  exact .tup (sqT e) (.cons (.str _) (.cons (.int _) .nil))
theorem dp_clks {K : PySem.W.Frag} {H : Hp} {xs : List V} {l : List Clk} (p : ClksT H xs l) : DpAll K H xs (l.map clkD) := by
  unfold ClksT at p
  induction p with
  | nil => exact .nil
  | cons f _ ih => exact .cons (dp_clk f) ih
theorem dp_row {K : PySem.W.Frag} {H : Hp} {a : Addr} {l : List Clk} (h : RowT H a l) : Dp K H (.ref a) (rowD l) := by
  obtain ⟨xs, e, p⟩ := h
  exact .tup (sqT e) (dp_clks p)
theorem dp_pair {K : PySem.W.Frag} {H : Hp} {T b : Addr} {l : List Clk} {d : Nat} (e : H T = some (.tup [.ref b, .int (d : Nat)])) (h : RowT H b l) : Dp K H (.ref T) (pairD l d) := .tup (sqT e) (.cons (dp_row h) (.cons (.int _) .nil))
theorem dp_trip {K : PySem.W.Frag} {H : Hp} {T b : Addr} {l : List Clk} {d : Nat} {r : Ru} (e : H T = some (.tup [.ref b, .int (d : Nat), .str (ruN r)])) (h : RowT H b l) : Dp K H (.ref T) (tripD l d r) := .tup (sqT e) (.cons (dp_row h) (.cons (.int _) (.cons (.str _) .nil)))
theorem can_clk (c : Clk) : (clkD c).canLay0 = true := by
  obtain ⟨k, n⟩ := c
  show (PyData.canLay0 (.str (kn k)) && (true && true)) = true
  cases k <;> decide +kernel
theorem can_clks : ∀ l : List Clk, PyData.canLayAll0 (l.map clkD) = true
  | [] => rfl
  | c :: l => by
    show ((clkD c).canLay0 && PyData.canLayAll0 (l.map clkD)) = true
    rw [can_clk, can_clks l]
    rfl
theorem can_ru (r : Ru) : PyData.canLay0 (.str (ruN r)) = true := by cases r <;> decide +kernel
theorem dep_clks : ∀ l : List Clk, PyData.depthAll (l.map clkD) ≤ 1
  | [] => Nat.zero_le _
  | c :: l => by
    show max 1 (PyData.depthAll (l.map clkD)) ≤ 1
    have := dep_clks l
    omega
theorem can_pair (l : List Clk) (d : Nat) : (pairD l d).canLay0 = true := by
  show (PyData.canLayAll0 (l.map clkD) && (true && true)) = true
  rw [can_clks]
  rfl
theorem can_trip (l : List Clk) (d : Nat) (r : Ru) : (tripD l d r).canLay0 = true := by
  show (PyData.canLayAll0 (l.map clkD) && (true && (PyData.canLay0 (.str (ruN r)) && true))) = true
  rw [can_clks, can_ru]
  rfl
theorem sh_pair (l : List Clk) (d : Nat) : SeqAt.shaped (pairD l d) = true := by
  unfold SeqAt.shaped
  rw [can_pair, Bool.true_and, decide_eq_true_eq]
  show max (PyData.depthAll (l.map clkD) + 1) (max 0 0) + 1 ≤ 64
  have := dep_clks l
  omega
theorem sh_trip (l : List Clk) (d : Nat) (r : Ru) : SeqAt.shaped (tripD l d r) = true := by
  unfold SeqAt.shaped
  rw [can_trip, Bool.true_and, decide_eq_true_eq]
  show max (PyData.depthAll (l.map clkD) + 1) (max 0 (max 0 0)) + 1 ≤ 64
  have := dep_clks l
  omega
/-! ### _law_pair_told -/
def spLPair : Sp := fun vs H Q _ => ∃ (T U b c : Addr) (l : List Clk) (d : Nat), vs = [.ref T, .ref U] ∧ H T = some (.tup [.ref b, .int (d : Nat)]) ∧ RowT H b l ∧ H U = some (.tup [.ref c, .int (d : Nat)]) ∧ RowT H c l ∧ ∀ H', Same H H' → Q (.bl true) H'
def spLFirst : Sp := fun vs H Q _ => ∃ (a R : Addr) (d : Nat) (l : List Clk) (ts : List V), vs = [.ref a, .int (d : Nat), .ref R] ∧ RowT H a l ∧ l.length ≤ 100 ∧ H R = some (.lst ts) ∧ TupsT H ts ((placesL l).map (rlV l)) ∧ (oneL l = none → ∀ H', Same H H' → Q .non H') ∧
  ∀ p r, oneL l = some p → ruleL (l.drop p) = some r → ∀ T H' b, Same H H' → H T = none → H' T = some (.tup [.ref b, .int ((useAt r l d p).2 : Nat), .str (ruN r)]) → RowT H' b (useAt r l d p).1 → Q (.ref T) H'
section
variable {P : Program} {w : World} {K : PySem.W.Frag} {mg : Str → Option Value} {base : Heap}
theorem ok_lpair {f fI : Addr} {fd fdI : FuncData} {k : Nat} (F : Fun K "_law_pair_told" "_law_pair_told" sLPair f fd) (B : Bl mg) (FI : Fun K "_law_int" "_law_int" sLInt fI fdI) (bI : Binds K fdI ["value"] []) (gI : mg "_law_int" = some (.ref fI)) : FnOk P w K mg base CX0 (k + 2) f fd ["told", "due"] spLPair := by
  have GI : FnOk P w K mg base CX0 (k + 1) fI fdI ["value"] spInt := ok_lint FI B
  refine F.ok scLPair (fun vs H Q E h => ?_) (fun cdv A outer s H vs Q E hr h => ?_)
  · obtain ⟨T, U, b, c, l, d, rfl, _⟩ := h
    rfl
  · obtain ⟨T, U, b, c, l, d, rfl, eT, hb, eU, hc, q⟩ := h
    refine ⟨_, pss_cons (ps_if (PW.pt (pw_or (pt_not (pt_val (pe_callB call_isi (by rfl) B.isi (by decide +kernel) (pa_cons (pv 0) (pa_cons (pe_bltn (v := .ty "tuple") (u := .type "tuple") (by rfl) B.tuple (by decide +kernel) rfl) pa_nil)))))
        (pw_or (pt_cmpR (op_neD hr.units) (pv 0) (pv 1) (nomark _))
        (pw_or (pt_not (pt_val (pe_callB call_isi (by rfl) B.isi (by decide +kernel) (pa_cons (pe_ix (r := rIxT K) ix_tup (pv 0) pe_int (fun _ _ => rfl)) (pa_cons (pe_bltn (v := .ty "tuple") (u := .type "tuple") (by rfl) B.tuple (by decide +kernel) rfl) pa_nil)))))
        (pw_or1 (pt_not (pt_val (pe_call GI hr (by rfl) gI FI.kp bI .nil pass0 (pa_cons (pe_ix (r := rIxT K) ix_tup (pv 0) pe_int (fun _ _ => rfl)) pa_nil))))))))) (pss_one (ps_ret pe_bl)) pss_nil)
      (pss_cons (ps_for PassesOwn.never rfl (pi_seq (pe_ix (r := rIxT K) ix_tup (pv 0) pe_int (fun _ _ => rfl))) (pg_name (i := 2) scLPair.nd rfl (Or.inl rfl))
        (pss_one (ps_if (PW.pt (pw_or (pt_not (pt_val (pe_callB call_isi (by rfl) B.isi (by decide +kernel) (pa_cons (pv 2) (pa_cons (pe_bltn (v := .ty "tuple") (u := .type "tuple") (by rfl) B.tuple (by decide +kernel) rfl) pa_nil)))))
          (pw_or1 (pt_not (pt_val (pe_call GI hr (by rfl) gI FI.kp bI .nil pass0 (pa_cons (pe_ix (r := rIxT K) ix_tup (pv 2) pe_int (fun _ _ => rfl)) pa_nil))))))) (pss_one (ps_ret pe_bl)) pss_nil)))
      (pss_one (ps_ret pe_bl))), ?_⟩
    obtain ⟨xs, eb, pl⟩ := id hb
    refine ⟨_, rfl, _, _, .type "tuple", _, true, rfl, .ty "tuple", .base (.tup eT), kit_ty (by decide +kernel), true, rfl, iteF ?_⟩
    refine ⟨.ref T, rfl, .ref U, rfl, pairD l d, pairD l d, dp_pair eT hb, dp_pair eU hc, sh_pair l d, sh_pair l d, ?_⟩
    rw [SeqAt.eqv_refl _ (can_pair l d)]
    refine ⟨_, rfl, iteFq rfl ?_⟩
    refine ⟨.ref T, rfl, T, _, 0, .ref b, rfl, rfl, sqT eT, atI_nat (j := 0) rfl, _, _, .type "tuple", _, true, rfl, .ty "tuple", .base (.tup eb), kit_ty (by decide +kernel), true, rfl, iteF ?_⟩
    refine ⟨.ref T, rfl, T, _, 1, .int (d : Nat), rfl, rfl, sqT eT, atI_nat (j := 1) rfl, _, rfl, _, rfl, iteF ?_⟩
    refine ⟨.ref T, rfl, T, _, 0, .ref b, rfl, rfl, sqT eT, atI_nat (j := 0) rfl, b, xs, rfl, forSeq (D := { nx := _, rt := Q }) (fun i σ H' => (∃ c, σ = [some (.ref T), some (.ref U), c]) ∧ Same H H') (.inr eb) ⟨⟨_, rfl⟩, Same.refl _⟩ (fun i σ H' o p e => p.2 _ _ e) ?_ ?_⟩
    · rintro i y σ H2 hy ⟨⟨c', rfl⟩, s2⟩
      obtain ⟨⟨k, n⟩, hk, u, rfl, hu⟩ := paired_get pl hy
      have hu2 := s2 _ _ hu
      refine ⟨_, rfl, _, _, .type "tuple", _, true, rfl, .ty "tuple", .base (.tup hu2), kit_ty (by decide +kernel), true, rfl, iteF ?_⟩
      exact ⟨.ref u, rfl, u, _, 1, .int (n : Nat), rfl, rfl, sqT hu2, atI_nat (j := 1) rfl, _, rfl, _, rfl, iteF ⟨⟨_, rfl⟩, s2⟩⟩
    · rintro σ H2 ⟨⟨c', rfl⟩, s2⟩
      exact q H2 s2
end
end K7

set_option Elab.async false
set_option linter.all false
set_option maxRecDepth 100000
set_option maxHeartbeats 4000000
namespace K7
open PySem PySem.Spec PyProof.Rows L2 GX NdefX K24
section
variable {P : Program} {w : World} {K : PySem.W.Frag} {mg : Str → Option Value} {base : Heap}
theorem ok_lfirst {f fU : Addr} {fd fdU : FuncData} {k : Nat} (F : Fun K "_law_first" "_law_first" sLFirst f fd) (B : Bl mg) (FU : Fun K "_law_behind" "_law_behind" sLBehind fU fdU) (bU : Binds K fdU ["row", "delay", "place", "rule"] []) (gU : mg "_law_behind" = some (.ref fU)) : FnOk P w K mg base CX0 (k + 2) f fd ["row", "delay", "rules"] spLFirst := by
  have GU : FnOk P w K mg base CX0 (k + 1) fU fdU ["row", "delay", "place", "rule"] spUsed := ok_lbehind FU B
  refine F.ok scLFirst (fun vs H Q E h => ?_) (fun cdv A outer s H vs Q E hr h => ?_)
  · obtain ⟨a, R, d, l, ts, rfl, _⟩ := h
    rfl
  · obtain ⟨a, D, d, l, ts, rfl, hrow, hl, e1, pt, q0, q1⟩ := h
    refine ⟨_, pss_cons (ps_setLc (i := 3) (own := [("pair", 4)]) (g := gName 4) (tt := tTest (tOp (rIn K false) (tOp (rIxT K) (tVar 4) (tC (.int 1))) (tTup (tCons (tC (.str "nothing")) (tCons (tC (.str "added")) tNil))))) rfl scLFirst.nd rfl rfl (sw_true rfl rfl rfl (by decide +kernel)) (pi_list (pv 2)) (blkOk_by (own := [("pair", 4)]) (N := ["row", "delay", "rules", "simple", "pair", "chosen"]) (sc := defScope sLFirst) (by decide +kernel)) (fun _ _ _ _ _ => pg_name (i := 4) scLFirst.nd rfl (Or.inl rfl))
          (fun _ _ _ _ _ => pts_one (pt_cmpR op_in_seq (pe_ix (r := rIxT K) ix_tup (pv 4) pe_int (fun _ _ => rfl)) (pe_tup (pa_cons pe_str (pa_cons pe_str pa_nil))) (by rfl))) (fun _ _ _ _ _ => pv 4))
      (pss_cons (ps_if (pt_cmpR op_eq (pe_callB call_len (by rfl) B.len PySem.boot_len (pa_cons (pv 2) pa_nil)) pe_int (nomark _)) (pss_one (ps_ret pe_non)) pss_nil)
      (pss_cons (ps_set (i := 5) scLFirst.nd rfl (.inl rfl) (pe_ix (r := rIxL K) ix_list (pe_op op_cat (pv 3) (pv 2)) pe_int (fun _ _ => rfl)))
      (pss_one (ps_ret (pe_op op_catA (pe_call GU hr (by rfl) gU FU.kp bU .nil pass0 (pa_cons (pv 0) (pa_cons (pv 1) (pa_cons (pe_ix (r := rIxT K) ix_tup (pv 5) pe_int (fun _ _ => rfl)) (pa_cons (pe_ix (r := rIxT K) ix_tup (pv 5) pe_int (fun _ _ => rfl)) pa_nil))))) (pe_tup (pa_cons (pe_ix (r := rIxT K) ix_tup (pv 5) pe_int (fun _ _ => rfl)) pa_nil))))))), ?_⟩
    have lps := places_len l
    have lts : ts.length = (placesL l).length := by rw [pt.length, List.length_map]
    refine ⟨.ref D, rfl, D, rfl, ⟨ts, sqL e1⟩, fun E1 nE => ?_⟩
    refine lcTupK (n := ts.length) (fun i => simpleR l ((placesL l).getD i 0)) (fun i => rlV l ((placesL l).getD i 0)) nE (by omega) (fun i H3 h s3 => ⟨ts, ts[i], sqL (s3 _ _ e1), List.getElem?_eq_getElem h⟩) (fun H3 s3 => ⟨ts, sqL (s3 _ _ e1), Nat.le_refl _⟩) (fun i x H3 H' Qk Qn hi s3 y hT hF => ?_) (fun H3 us s3 e3 pu => ?_)
    · obtain ⟨rfl, hx⟩ := y
      have hx := hx ts (sqL (s3 _ _ e1))
      obtain ⟨vs, b, hv, rfl, hb⟩ := tups_got (pt.same s3) hx
      rw [List.getElem?_map] at hv
      obtain ⟨p, hp, rfl⟩ := Option.map_eq_some_iff.mp hv
      rw [getD_at hp] at hT hF
      obtain ⟨_, r, hr⟩ := places_rule (List.mem_of_getElem? hp)
      refine ⟨rfl, .ref b, rfl, b, _, 1, .str (ruN r), rfl, rfl, sqT hb, ?_, by show 2 ≤ sizeLine; decide, fun W nW => ?_⟩
      · unfold rlV
        rw [hr]
        exact atI_nat (j := 1) rfl
      have sW := same_upd nW (o := .tup [.str "nothing", .str "added"])
      refine ⟨W, [.str "nothing", .str "added"], rfl, .inr (sqT upd_same), rfl, rfl, _, rfl, ?_⟩
      have ei : inV (.str (ruN r)) [.str "nothing", .str "added"] = simpleR l p := by
        unfold simpleR
        rw [hr]
        cases r <;> decide
      show if (inV (.str (ruN r)) [.str "nothing", .str "added"]) = true then _ else _
      rw [ei]
      cases hs : simpleR l p with
      | true => exact iteTq rfl ⟨.ref b, rfl, hT _ _ hs ⟨b, rfl, sW _ _ hb⟩ sW⟩
      | false => exact iteFq rfl (hF _ hs sW)
    · rw [lts] at pu
      have ef : ((List.range (placesL l).length).filter fun i => simpleR l ((placesL l).getD i 0)).map (fun i => rlV l ((placesL l).getD i 0)) = ((placesL l).filter (simpleR l)).map (rlV l) := by
        rw [← idx_filter (placesL l) 0, List.map_map]
        rfl
      rw [ef] at pu
      have lus : us.length ≤ 100 := by
        have h1 := pu.length
        have h2 := List.length_filter_le (simpleR l) (placesL l)
        rw [List.length_map] at h1
        omega
      have e13 := s3 _ _ e1
      refine ⟨.ref D, rfl, .ref D, ts.length, rfl, .inl ⟨_, sqL e13, rfl⟩, rfl, _, rfl, ?_⟩
      by_cases hz : placesL l = []
      · exact iteTq (by rw [lts, hz]; rfl) (q0 (one_none hz) H3 s3)
      have hne : ts.length ≠ 0 := fun z => hz (List.length_eq_zero_iff.mp (by rw [← lts, z]))
      refine iteFq (decide_eq_false fun e => hne (by have := V.int.inj e; omega)) ?_
      refine ⟨.ref E1, rfl, .ref D, rfl, E1, D, us, ts, rfl, rfl, e3, e13, by rw [sizeLine_eq]; omega, fun C nC => ?_⟩
      have sC := same_upd nC (o := .lst (us ++ ts))
      have pc : TupsT (upd H3 C (.lst (us ++ ts))) (us ++ ts) (((placesL l).filter (simpleR l) ++ placesL l).map (rlV l)) := by
        rw [List.map_append]
        exact paired_app (pu.same sC) ((pt.same s3).same sC)
      obtain ⟨p, hp⟩ : ∃ p, oneL l = some p := by
        unfold oneL
        cases hps : placesL l with
        | nil => exact absurd hps hz
        | cons a r =>
          rw [← hps]
          cases hf : (placesL l).filter (simpleR l) with
          | nil => exact ⟨a, by rw [hps]; rfl⟩
          | cons b _ => exact ⟨b, rfl⟩
      obtain ⟨hpl, r, hr⟩ := places_rule (one_mem hp)
      have h0 : ((((placesL l).filter (simpleR l) ++ placesL l)).map (rlV l))[0]? = some (rlV l p) := by
        unfold oneL at hp
        rw [List.getElem?_map, ← List.head?_eq_getElem?, hp]
        rfl
      obtain ⟨x, hx, b, rfl, hb⟩ := paired_got pc h0
      have s13 := s3.trans sC
      have hb : upd H3 C (.lst (us ++ ts)) b = some (.tup [.int (p : Nat), .str (ruN r)]) := by
        rw [hb]
        unfold rlV
        rw [hr]
        rfl
      refine ⟨C, _, 0, .ref b, rfl, rfl, sqL upd_same, atI_nat (j := 0) hx, ?_⟩
      refine ⟨.ref a, rfl, .int (d : Nat), rfl, .ref b, rfl, b, _, 0, .int (p : Nat), rfl, rfl, sqT hb, atI_nat (j := 0) rfl, .ref b, rfl, b, _, 1, .str (ruN r), rfl, rfl, sqT hb, atI_nat (j := 1) rfl, a, d, p, r, l, rfl, hrow.same s13, hl, hr, fun T H4 b2 s4 nT eT hb2 => ?_⟩
      refine ⟨.ref b, rfl, b, _, 1, .str (ruN r), rfl, rfl, sqT (s4 _ _ hb), atI_nat (j := 1) rfl, by show 1 ≤ sizeLine; decide, fun W nW => ?_⟩
      have sW := same_upd nW (o := .tup [.str (ruN r)])
      refine ⟨T, W, _, _, rfl, rfl, sqT (sW _ _ eT), sqT upd_same, by show 3 ≤ sizeLine; decide, (fun z => by cases z), (fun _ z => by cases z), fun _ _ X nX => ?_⟩
      have sX := same_upd nX (o := .tup ([.ref b2, .int ((useAt r l d p).2 : Nat)] ++ [.str (ruN r)]))
      have s5 := s13.trans (s4.trans (sW.trans sX))
      exact q1 p r hp hr X _ b2 s5 (none_of_same (s13.trans (s4.trans sW)) nX) upd_same (hb2.same (sW.trans sX))
end
end K7

set_option Elab.async false
set_option linter.all false
set_option maxRecDepth 100000
set_option maxHeartbeats 4000000
namespace K7
open PySem PySem.Spec PyProof.Rows L2 GX NdefX K24
theorem scLWord : FnScope ["word", "row", "delay", "more", "refused"] ["word", "row", "delay", "more"] (defScope sLWord) := ⟨rfl, rfl, rfl, by decide +kernel, rfl, by decide +kernel, by decide +kernel⟩
/-- what is asked of the classes where they are caught -/
structure Xt (K : PySem.W.Frag) (CR CN : Addr) : Prop where
  xR : XfC K CR
  xN : XfC K CN
  nn : PySem.W.exmOne K (.ref CN) (.ref CN) = some true
  rn : PySem.W.exmOne K (.ref CR) (.ref CN) = some false
  rr : PySem.W.exmOne K (.ref CR) (.ref CR) = some true
def WordOk (H : Hp) (t : Nat) (x z y : V) (A : V) : Prop := (BadRowV H x ∧ A = .str "row") ∨ ∃ l, RowAt H x l ∧ ((t = 0 ∧ A = .str "let") ∨
  (t = 1 ∧ ((Scal y ∧ A = .int (-1)) ∨ (∃ b i, Bit2 H y b i ∧ A = .int 1) ∨ ∃ xs, Bits H y xs ∧ Num z ∧ wholeN 0 z = false ∧ A = .str "delay")) ∨
  ((t = 2 ∨ t = 3 ∨ t = 5) ∧ Num z ∧ wholeN 0 z = false ∧ A = .str "delay") ∨
  (t = 5 ∧ (∃ d : Nat, z = .int (d : Nat)) ∧ ((∃ i, y = .int i ∧ (i < 0 ∨ ruleL (l.drop i.toNat) = none)) ∨ ∃ b, y = .bl b) ∧ A = .str "place"))
def spWord : Sp := fun vs H Q _ => ∃ (t : Nat) (x z y A : V), vs = [.int (t : Nat), x, z, y] ∧ t ≤ 5 ∧ WordOk H t x z y A ∧ ∀ H', Same H H' → Q A H'
section
variable {P : Program} {w : World} {K : PySem.W.Frag} {mg : Str → Option Value} {base : Heap}
theorem ok_lword {f : Addr} {fd : FuncData} {k : Nat} (F : Fun K "_law_word" "_law_word" sLWord f fd) (B : Bl mg) (C : Cn K mg) (X : Xc P K mg) (T : Xt K X.CR X.CN) (G : Pg K mg) (NB : Kn K mg "row_bits" sRowBits ["row", "bits", "delay"]) (NN : Kn K mg "normal" sNormal ["row", "delay"]) :
    FnOk P w K mg base CX0 (k + 7) f fd ["word", "row", "delay", "more"] spWord := by
  have G0 : FnOk P w K mg base (CX P w) (k + 6) G.cr.f G.cr.fd ["row"] (spCkRow X.CN) := ok_ckRow G.cr.F B C X G.tr.F G.tr.b G.tr.g G.ir.F G.ir.b G.ir.g G.li.F G.li.b G.li.g G.wh.F G.wh.b G.wh.g
  have G1 : FnOk P w K mg base (CX P w) (k + 6) NB.f NB.fd ["row", "bits", "delay"] (spRowBits X.CN X.CR) := ok_rowBits B C X G NB
  have G2 : FnOk P w K mg base (CX P w) (k + 6) NN.f NN.fd ["row", "delay"] (spNormal X.CN) := ok_normal B C X G NN
  have G3 : FnOk P w K mg base (CX P w) (k + 6) G.on.f G.on.fd ["row", "delay"] (spOne X.CN) := ok_one B C X G
  have G4 : FnOk P w K mg base (CX P w) (k + 6) G.rsa.f G.rsa.fd ["row"] (spRulesAt X.CN) := ok_rulesAt B C X G
  have G5 : FnOk P w K mg base (CX P w) (k + 6) G.ue.f G.ue.fd ["row", "delay", "place"] (spUse X.CN) := ok_use B C X G
  refine F.ok scLWord (fun vs H Q E h => ?_) (fun cdv A outer s H vs Q E hr h => ?_)
  · obtain ⟨t, x, z, y, A, rfl, _⟩ := h
    rfl
  · obtain ⟨t, x, z, y, A, rfl, ht, h, q⟩ := h
    refine ⟨_, pss_cons (ps_try_manyA rfl rfl scLWord.nd takes0
          (fun W pn xe tk _ => (pss_one (ps_if (pt_cmpR op_eq (pv 0) pe_int (nomark _)) (pss_one (ps_expr (pe_callS G0 hr (by rfl) G.cr.g G.cr.F.kp G.cr.b (fun σ => passAt tk σ) (pa_cons (pv 1) pa_nil))))
            (pss_one (ps_if (pt_cmpR op_eq (pv 0) pe_int (nomark _)) (pss_one (ps_expr (pe_callKS G1 hr (by rfl) NB.g NB.F.kp NB.b (fun σ => passAt tk σ) (pa_cons (pv 1) (pa_cons (pv 3) pa_nil)) (pk_cons (pv 2) pk_nil))))
            (pss_one (ps_if (pt_cmpR op_eq (pv 0) pe_int (nomark _)) (pss_one (ps_expr (pe_callKS G2 hr (by rfl) NN.g NN.F.kp NN.b (fun σ => passAt tk σ) (pa_cons (pv 1) pa_nil) (pk_cons (pv 2) pk_nil))))
            (pss_one (ps_if (pt_cmpR op_eq (pv 0) pe_int (nomark _)) (pss_one (ps_expr (pe_callS G3 hr (by rfl) G.on.g G.on.F.kp G.on.b (fun σ => passAt tk σ) (pa_cons (pv 1) (pa_cons (pv 2) pa_nil)))))
            (pss_one (ps_if (pt_cmpR op_eq (pv 0) pe_int (nomark _)) (pss_one (ps_expr (pe_callS G4 hr (by rfl) G.rsa.g G.rsa.F.kp G.rsa.b (fun σ => passAt tk σ) (pa_cons (pv 1) pa_nil))))
            (pss_one (ps_expr (pe_callS G5 hr (by rfl) G.ue.g G.ue.F.kp G.ue.b (fun σ => passAt tk σ) (pa_cons (pv 1) (pa_cons (pv 2) (pa_cons (pv 3) pa_nil)))))))))))))))))
          (HdsA.named (i := 4) (c := .ref X.CN) ⟨by rfl, by decide, .inl X.gN⟩ rfl rfl (fun a oe cls d pn hz hv => pss_one (ps_ret (pe_xf T.xN X.nN hz hv (pv 4))))
          (HdsA.named (i := 4) (c := .ref X.CR) ⟨by rfl, by decide, .inl X.gR⟩ rfl rfl (fun a oe cls d pn hz hv => pss_one (ps_ret (pe_xf T.xR X.nR hz hv (pv 4)))) HdsA.nil)))
      (pss_one (ps_ret pe_str)), ?_⟩
    rcases h with ⟨hb, rfl⟩ | ⟨l, hrow, ⟨rfl, rfl⟩ | ⟨rfl, h⟩ | ⟨ht2, hn, hw, rfl⟩ | ⟨rfl, ⟨d, rfl⟩, hy, rfl⟩⟩
    · rcases (by omega : t = 0 ∨ t = 1 ∨ t = 2 ∨ t = 3 ∨ t = 4 ∨ t = 5) with rfl | rfl | rfl | rfl | rfl | rfl
      · exact ⟨.int (0 : Nat), rfl, rfl, _, rfl, iteTq (by decide) ⟨x, rfl, x, rfl, (.inr ⟨hb, (fun d H' s' e => ⟨true, T.nn, fun _ a na => ⟨.ref a, rfl, rfl, rfl, d, _, .str "row", rfl, e, rfl, q _ s'⟩, fun z => Bool.noConfusion z⟩)⟩)⟩⟩
      · exact ⟨.int (1 : Nat), rfl, rfl, _, rfl, iteFq (by decide) ⟨.int (1 : Nat), rfl, rfl, _, rfl, iteTq (by decide) ⟨x, rfl, y, rfl, z, rfl, x, y, z, rfl, (.inr (.inl ⟨hb, (fun d H' s' e => ⟨true, T.nn, fun _ a na => ⟨.ref a, rfl, rfl, rfl, d, _, .str "row", rfl, e, rfl, q _ s'⟩, fun z => Bool.noConfusion z⟩)⟩))⟩⟩⟩
      · exact ⟨.int (2 : Nat), rfl, rfl, _, rfl, iteFq (by decide) ⟨.int (2 : Nat), rfl, rfl, _, rfl, iteFq (by decide) ⟨.int (2 : Nat), rfl, rfl, _, rfl, iteTq (by decide) ⟨x, rfl, z, rfl, x, z, rfl, (.inr (.inl ⟨hb, (fun d H' s' e => ⟨true, T.nn, fun _ a na => ⟨.ref a, rfl, rfl, rfl, d, _, .str "row", rfl, e, rfl, q _ s'⟩, fun z => Bool.noConfusion z⟩)⟩))⟩⟩⟩⟩
      · exact ⟨.int (3 : Nat), rfl, rfl, _, rfl, iteFq (by decide) ⟨.int (3 : Nat), rfl, rfl, _, rfl, iteFq (by decide) ⟨.int (3 : Nat), rfl, rfl, _, rfl, iteFq (by decide) ⟨.int (3 : Nat), rfl, rfl, _, rfl, iteTq (by decide) ⟨x, rfl, z, rfl, x, z, rfl, (.inr (.inl ⟨hb, (fun d H' s' e => ⟨true, T.nn, fun _ a na => ⟨.ref a, rfl, rfl, rfl, d, _, .str "row", rfl, e, rfl, q _ s'⟩, fun z => Bool.noConfusion z⟩)⟩))⟩⟩⟩⟩⟩
      · exact ⟨.int (4 : Nat), rfl, rfl, _, rfl, iteFq (by decide) ⟨.int (4 : Nat), rfl, rfl, _, rfl, iteFq (by decide) ⟨.int (4 : Nat), rfl, rfl, _, rfl, iteFq (by decide) ⟨.int (4 : Nat), rfl, rfl, _, rfl, iteFq (by decide) ⟨.int (4 : Nat), rfl, rfl, _, rfl, iteTq (by decide) ⟨x, rfl, x, rfl, (.inr ⟨hb, (fun d H' s' e => ⟨true, T.nn, fun _ a na => ⟨.ref a, rfl, rfl, rfl, d, _, .str "row", rfl, e, rfl, q _ s'⟩, fun z => Bool.noConfusion z⟩)⟩)⟩⟩⟩⟩⟩⟩
      · exact ⟨.int (5 : Nat), rfl, rfl, _, rfl, iteFq (by decide) ⟨.int (5 : Nat), rfl, rfl, _, rfl, iteFq (by decide) ⟨.int (5 : Nat), rfl, rfl, _, rfl, iteFq (by decide) ⟨.int (5 : Nat), rfl, rfl, _, rfl, iteFq (by decide) ⟨.int (5 : Nat), rfl, rfl, _, rfl, iteFq (by decide) ⟨x, rfl, z, rfl, y, rfl, x, z, y, rfl, (.inr (.inl ⟨hb, (fun d H' s' e => ⟨true, T.nn, fun _ a na => ⟨.ref a, rfl, rfl, rfl, d, _, .str "row", rfl, e, rfl, q _ s'⟩, fun z => Bool.noConfusion z⟩)⟩))⟩⟩⟩⟩⟩⟩
    · exact ⟨.int (0 : Nat), rfl, rfl, _, rfl, iteTq (by decide) ⟨x, rfl, x, rfl, .inl ⟨l, hrow, q⟩⟩⟩
    · rcases h with ⟨hs, rfl⟩ | ⟨b, i, hb, rfl⟩ | ⟨xs, hb, hn, hw, rfl⟩
      · exact ⟨.int (1 : Nat), rfl, rfl, _, rfl, iteFq (by decide) ⟨.int (1 : Nat), rfl, rfl, _, rfl, iteTq (by decide) ⟨x, rfl, y, rfl, z, rfl, x, y, z, rfl, .inr (.inr ⟨l, hrow, .inl ⟨hs, (fun d H' s' e => ⟨false, T.rn, fun z => Bool.noConfusion z, fun _ => ⟨true, T.rr, fun _ a na => ⟨.ref a, rfl, rfl, rfl, d, _, .int (-1), rfl, e, rfl, q _ s'⟩, fun z => Bool.noConfusion z⟩⟩)⟩⟩)⟩⟩⟩
      · exact ⟨.int (1 : Nat), rfl, rfl, _, rfl, iteFq (by decide) ⟨.int (1 : Nat), rfl, rfl, _, rfl, iteTq (by decide) ⟨x, rfl, y, rfl, z, rfl, x, y, z, rfl, .inr (.inr ⟨l, hrow, .inr (.inl ⟨b, i, hb, (fun d H' s' e => ⟨false, T.rn, fun z => Bool.noConfusion z, fun _ => ⟨true, T.rr, fun _ a na => ⟨.ref a, rfl, rfl, rfl, d, _, .int 1, rfl, e, rfl, q _ s'⟩, fun z => Bool.noConfusion z⟩⟩)⟩)⟩)⟩⟩⟩
      · exact ⟨.int (1 : Nat), rfl, rfl, _, rfl, iteFq (by decide) ⟨.int (1 : Nat), rfl, rfl, _, rfl, iteTq (by decide) ⟨x, rfl, y, rfl, z, rfl, x, y, z, rfl, .inr (.inr ⟨l, hrow, .inr (.inr ⟨xs, hb, hn, hw, (fun d H' s' e => ⟨true, T.nn, fun _ a na => ⟨.ref a, rfl, rfl, rfl, d, _, .str "delay", rfl, e, rfl, q _ s'⟩, fun z => Bool.noConfusion z⟩)⟩)⟩)⟩⟩⟩
    · rcases ht2 with rfl | rfl | rfl
      · exact ⟨.int (2 : Nat), rfl, rfl, _, rfl, iteFq (by decide) ⟨.int (2 : Nat), rfl, rfl, _, rfl, iteFq (by decide) ⟨.int (2 : Nat), rfl, rfl, _, rfl, iteTq (by decide) ⟨x, rfl, z, rfl, x, z, rfl, .inr (.inr ⟨l, hrow, hn, hw, (fun d H' s' e => ⟨true, T.nn, fun _ a na => ⟨.ref a, rfl, rfl, rfl, d, _, .str "delay", rfl, e, rfl, q _ s'⟩, fun z => Bool.noConfusion z⟩)⟩)⟩⟩⟩⟩
      · exact ⟨.int (3 : Nat), rfl, rfl, _, rfl, iteFq (by decide) ⟨.int (3 : Nat), rfl, rfl, _, rfl, iteFq (by decide) ⟨.int (3 : Nat), rfl, rfl, _, rfl, iteFq (by decide) ⟨.int (3 : Nat), rfl, rfl, _, rfl, iteTq (by decide) ⟨x, rfl, z, rfl, x, z, rfl, .inr (.inr ⟨l, hrow, hn, hw, (fun d H' s' e => ⟨true, T.nn, fun _ a na => ⟨.ref a, rfl, rfl, rfl, d, _, .str "delay", rfl, e, rfl, q _ s'⟩, fun z => Bool.noConfusion z⟩)⟩)⟩⟩⟩⟩⟩
      · exact ⟨.int (5 : Nat), rfl, rfl, _, rfl, iteFq (by decide) ⟨.int (5 : Nat), rfl, rfl, _, rfl, iteFq (by decide) ⟨.int (5 : Nat), rfl, rfl, _, rfl, iteFq (by decide) ⟨.int (5 : Nat), rfl, rfl, _, rfl, iteFq (by decide) ⟨.int (5 : Nat), rfl, rfl, _, rfl, iteFq (by decide) ⟨x, rfl, z, rfl, y, rfl, x, z, y, rfl, .inr (.inr ⟨l, hrow, hn, hw, (fun d H' s' e => ⟨true, T.nn, fun _ a na => ⟨.ref a, rfl, rfl, rfl, d, _, .str "delay", rfl, e, rfl, q _ s'⟩, fun z => Bool.noConfusion z⟩)⟩)⟩⟩⟩⟩⟩⟩
    · generalize hz : V.int (d : Nat) = z
      exact ⟨.int (5 : Nat), rfl, rfl, _, rfl, iteFq (by decide) ⟨.int (5 : Nat), rfl, rfl, _, rfl, iteFq (by decide) ⟨.int (5 : Nat), rfl, rfl, _, rfl, iteFq (by decide) ⟨.int (5 : Nat), rfl, rfl, _, rfl, iteFq (by decide) ⟨.int (5 : Nat), rfl, rfl, _, rfl, iteFq (by decide) ⟨x, rfl, z, rfl, y, rfl, x, z, y, rfl, .inl ⟨l, d, hrow, hz.symm, .inr ⟨hy, (fun d H' s' e => ⟨true, T.nn, fun _ a na => ⟨.ref a, rfl, rfl, rfl, d, _, .str "place", rfl, e, rfl, q _ s'⟩, fun z => Bool.noConfusion z⟩)⟩⟩⟩⟩⟩⟩⟩⟩
end
end K7

set_option Elab.async false
set_option linter.all false
set_option maxRecDepth 100000
set_option maxHeartbeats 4000000
namespace K7
open PySem PySem.Spec PyProof.Rows L2 GX NdefX K24
theorem scLTurn : FnScope ["row", "delay", "rules", "told", "given", "place", "rule", "pair", "word", "led", "refused"] ["row", "delay", "rules"] (defScope sLTurn) := ⟨rfl, rfl, rfl, by decide +kernel, rfl, by decide +kernel, by decide +kernel⟩
/-! ### rules as data -/
def ruD : Option Ru → PyData
  | none => .none
  | some r => .str (ruN r)
def rlD (l : List Clk) (p : Nat) : PyData := .tuple [.int (p : Nat), ruD (ruleL (l.drop p))]
theorem dp_rl {K : PySem.W.Frag} {H : Hp} {x : V} {l : List Clk} {p : Nat} (h : TupT H x (rlV l p)) : Dp K H x (rlD l p) := by
  obtain ⟨a, rfl, e⟩ := h
  refine .tup (sqT e) (.cons (.int _) (.cons ?_ .nil))
  cases ruleL (l.drop p) with
  | none => exact .non
  | some r => exact .str _
theorem dp_rls {K : PySem.W.Frag} {H : Hp} {ts : List V} {l : List Clk} : ∀ {ps : List Nat} {ts : List V}, TupsT H ts (ps.map (rlV l)) → DpAll K H ts (ps.map (rlD l))
  | [], _, .nil => .nil
  | _ :: _, _, .cons f r => .cons (dp_rl f) (dp_rls (ts := ts) r)
theorem can_ruD (o : Option Ru) : (ruD o).canLay0 = true := by
  cases o with
  | none => rfl
  | some r => exact can_ru r
theorem can_rls (l : List Clk) : ∀ ps : List Nat, PyData.canLayAll0 (ps.map (rlD l)) = true
  | [] => rfl
  | p :: ps => by
    show ((true && ((ruD (ruleL (l.drop p))).canLay0 && true)) && PyData.canLayAll0 (ps.map (rlD l))) = true
    rw [can_ruD, can_rls l ps]
    rfl
theorem dep_rls (l : List Clk) : ∀ ps : List Nat, PyData.depthAll (ps.map (rlD l)) ≤ 1
  | [] => Nat.zero_le _
  | p :: ps => by
    have h0 : PyData.depth (ruD (ruleL (l.drop p))) = 0 := by cases ruleL (l.drop p) <;> rfl
    show max (max 0 (max (PyData.depth (ruD (ruleL (l.drop p)))) 0) + 1) (PyData.depthAll (ps.map (rlD l))) ≤ 1
    have := dep_rls l ps
    omega
theorem sh_rls (l : List Clk) (ps : List Nat) : SeqAt.shaped (.list (ps.map (rlD l))) = true := by
  unfold SeqAt.shaped
  rw [show PyData.canLay0 (.list (ps.map (rlD l))) = PyData.canLayAll0 (ps.map (rlD l)) from rfl, can_rls, Bool.true_and, decide_eq_true_eq]
  show PyData.depthAll (ps.map (rlD l)) + 1 ≤ 64
  have := dep_rls l ps
  omega
theorem filter_at (j : Int) : ∀ xs : List Nat, xs.Nodup → xs.filter (fun p => decide (((p : Nat) : Int) = j)) = if 0 ≤ j ∧ j.toNat ∈ xs then [j.toNat] else []
  | [], _ => by simp
  | x :: xs, h => by
    obtain ⟨h1, h2⟩ := List.nodup_cons.mp h
    have ih := filter_at j xs h2
    by_cases e : ((x : Nat) : Int) = j
    · rw [List.filter_cons_of_pos (by simpa using e), ih]
      have hj : j.toNat = x := by omega
      rw [if_neg (fun z => h1 (hj ▸ z.2)), if_pos ⟨by omega, by rw [hj]; exact List.mem_cons_self⟩, hj]
    · rw [List.filter_cons_of_neg (by simpa using e), ih]
      by_cases hm : 0 ≤ j ∧ j.toNat ∈ xs
      · rw [if_pos hm, if_pos ⟨hm.1, List.mem_cons_of_mem _ hm.2⟩]
      · rw [if_neg hm, if_neg]
        rintro ⟨z1, z2⟩
        rcases List.mem_cons.mp z2 with z | z
        · omega
        · exact hm ⟨z1, z⟩
theorem places_nodup (l : List Clk) : (placesL l).Nodup := List.nodup_range.filter _
theorem mem_places {l : List Clk} {p : Nat} : p ∈ placesL l ↔ ∃ r, ruleL (l.drop p) = some r := by
  unfold placesL
  rw [List.mem_filter, List.mem_range]
  constructor
  · rintro ⟨_, h⟩
    exact Option.isSome_iff_exists.mp h
  · rintro ⟨r, h⟩
    exact ⟨rule_lt h, by rw [h]; rfl⟩
def spLTurn : Sp := fun vs H Q _ => ∃ (a R : Addr) (d : Nat) (l : List Clk) (ts : List V), vs = [.ref a, .int (d : Nat), .ref R] ∧ RowT H a l ∧ l.length ≤ 100 ∧ H R = some (.lst ts) ∧ TupsT H ts ((placesL l).map (rlV l)) ∧ ∀ H', Same H H' → Q (.bl true) H'
end K7

set_option Elab.async false
set_option linter.all false
set_option maxRecDepth 100000
set_option maxHeartbeats 4000000
namespace K7
open PySem PySem.Spec PyProof.Rows L2 GX NdefX K24
/-- the law's own defs -/
structure Lg (K : PySem.W.Frag) (mg : Str → Option Value) where
  nu : Dn K mg "_law_numbers" sLNums ["script"]
  dr : Dn K mg "_law_draw" sLDraw ["numbers", "many"]
  it : Dn K mg "_law_int" sLInt ["value"]
  bo : Dn K mg "_law_bits_ok" sLBitsOk ["row", "many"]
  cl : Dn K mg "_law_clocks" sLClocks ["numbers"]
  rn : Dn K mg "_law_runs" sLRuns ["numbers"]
  ot : Dn K mg "_law_out" sLOut ["row", "delay", "bits"]
  lr : Dn K mg "_law_rule" sLRule ["row", "place"]
  rs : Dn K mg "_law_rules" sLRules ["row"]
  bh : Dn K mg "_law_behind" sLBehind ["row", "delay", "place", "rule"]
  sm : Dn K mg "_law_sums" sLSums ["row", "delay"]
  pt : Dn K mg "_law_pair_told" sLPair ["told", "due"]
  fi : Dn K mg "_law_first" sLFirst ["row", "delay", "rules"]
  ls : Dn K mg "_law_listed" sLListed ["row"]
  tn : Dn K mg "_law_turn" sLTurn ["row", "delay", "rules"]
  wd : Dn K mg "_law_word" sLWord ["word", "row", "delay", "more"]
  rf : Dn K mg "_law_refusals" sLRefusals ["row"]
abbrev turnN : List Str := ["row", "delay", "rules", "told", "given", "place", "rule", "pair", "word", "led", "refused"]
section
variable {P : Program} {w : World} {K : PySem.W.Frag} {mg : Str → Option Value} {base : Heap}
theorem turn_for {k : Nat} (B : Bl mg) (C : Cn K mg) (X : Xc P K mg) (T : Xt K X.CR X.CN) (G : Pg K mg) (L : Lg K mg) (f : Addr) (cdv : Value) (A : Around) (outer : List Env) (s : Shared) (H0 : Hp) (Q : VK) (E : XK) (hr : Room (k + 6) (A.deeper (envOfC "_law_turn" (defScope sLTurn) s.heap.objs.size f cdv))) :
    ∃ t, PSs (cxOf (CX P w) P w K mg base turnN "_law_turn" (defScope sLTurn) f cdv A outer s H0 E) ((defBody sLTurn).drop 4) t ∧ ∀ (c3 c4 : Option V) (a R : Addr) (d : Nat) (l : List Clk) (ts : List V) (H1 : Hp), RowT H1 a l → l.length ≤ 100 → H1 R = some (.lst ts) → TupsT H1 ts ((placesL l).map (rlV l)) → (∀ H', Same H1 H' → Q (.bl true) H') →
      t { nx := fun _ H' => Q V.non H', rt := Q } [some (.ref a), some (.int (d : Nat)), some (.ref R), c3, c4, none, none, none, none, none, none] H1 := by
  have GU : FnOk P w K mg base (CX P w) (k + 6) G.ue.f G.ue.fd ["row", "delay", "place"] (spUse X.CN) := ok_use B C X G
  have GL : FnOk P w K mg base CX0 (k + 6) L.ls.f L.ls.fd ["row"] spLListed := ok_llisted L.ls.F B
  have GB : FnOk P w K mg base CX0 (k + 6) L.bh.f L.bh.fd ["row", "delay", "place", "rule"] spUsed := ok_lbehind L.bh.F B
  have GP : FnOk P w K mg base CX0 (k + 6) L.pt.f L.pt.fd ["told", "due"] spLPair := ok_lpair L.pt.F B L.it.F L.it.b L.it.g
  refine ⟨_, (pss_cons (ps_for (by passes_own) rfl (pi_range2 (by rfl) B.range (pa_cons (pe_un un_neg pe_int) (pa_cons (pe_op op_add (pe_callB call_len (by rfl) B.len PySem.boot_len (pa_cons (pv 0) pa_nil)) pe_int) pa_nil))) (pg_name (i := 5) scLTurn.nd rfl (.inr rfl))
      (pss_cons (ps_setLc (i := 6) (own := [("pair", 7)]) (g := gName 7) (tt := tTest (tOp rEq (tOp (rIxT K) (tVar 7) (tC (.int 0))) (tVar 5))) rfl scLTurn.nd rfl rfl (sw_true rfl rfl rfl (by decide +kernel)) (pi_list (pv 2)) (blkOk_by (own := [("pair", 7)]) (N := turnN) (sc := defScope sLTurn) (by decide +kernel)) (fun _ _ _ _ _ => pg_name (i := 7) scLTurn.nd rfl (Or.inl rfl))
          (fun _ _ _ _ _ => pts_one (pt_cmpR op_eq (pe_ix (r := rIxT K) ix_tup (pv 7) pe_int (fun _ _ => rfl)) (pv 5) (nomark _))) (fun _ _ _ _ _ => pe_ix (r := rIxT K) ix_tup (pv 7) pe_int (fun _ _ => rfl)))
      (pss_cons (ps_set (i := 8) scLTurn.nd rfl (.inl rfl) pe_str)
      (pss_cons (ps_try_manyA rfl rfl scLTurn.nd (takes_of rfl rfl rfl rfl)
          (fun W pn xe tk _ => pss_cons (ps_set (i := 9) scLTurn.nd rfl (.inl rfl) (pe_callS GU hr (by rfl) G.ue.g G.ue.F.kp G.ue.b (fun σ => passAt tk σ) (pa_cons (pe_call GL hr (by rfl) L.ls.g L.ls.F.kp L.ls.b .nil pass0 (pa_cons (pv 0) pa_nil)) (pa_cons (pv 1) (pa_cons (pv 5) pa_nil)))))
            (pss_one (ps_if (PW.pt (pw_or (pt_cmpR op_eq (pe_callB (r := fun xs H Q => ∃ x n, xs = [x] ∧ LenV K x H n ∧ Q (V.int (n : Nat)) H) call_len (by rfl) B.len PySem.boot_len (pa_cons (pv 6) pa_nil)) pe_int (nomark _))
              (pw_or1 (pt_not (pt_val (pe_call GP hr (by rfl) L.pt.g L.pt.F.kp L.pt.b .nil pass0 (pa_cons (pv 9) (pa_cons (pe_call GB hr (by rfl) L.bh.g L.bh.F.kp L.bh.b .nil pass0 (pa_cons (pv 0) (pa_cons (pv 1) (pa_cons (pv 5) (pa_cons (pe_ix (r := rIxL K) ix_list (pv 6) pe_int (fun _ _ => rfl)) pa_nil))))) pa_nil)))))))) (pss_one (ps_ret pe_bl)) pss_nil)))
          (HdsA.named (i := 10) (c := .ref X.CN) ⟨by rfl, by decide, .inl X.gN⟩ rfl rfl (fun a oe cls d pn hz hv => pss_one (ps_set (i := 8) scLTurn.nd rfl (.inl rfl) (pe_xf T.xN X.nN hz hv (pv 10)))) HdsA.nil))
      (pss_one (ps_if (pt_cmpR op_ne (pv 8) (pe_ix (r := rIxL K) ix_list (pe_lst (pa_cons pe_str (pa_cons pe_str pa_nil))) (pe_callB call_len (by rfl) B.len PySem.boot_len (pa_cons (pv 6) pa_nil)) (fun _ _ => rfl)) (nomark _)) (pss_one (ps_ret pe_bl)) pss_nil))))))
      (pss_one (ps_ret pe_bl))), ?_⟩
  intro c3 c4 a R d l ts H1 hrow hl eR pt q
  have lts : ts.length = (placesL l).length := by rw [pt.length, List.length_map]
  have lps := places_len l
  have hlen : ∀ H', Same H1 H' → LenV K (.ref a) H' l.length := fun H' s => by
    obtain ⟨xs, e, p⟩ := hrow.same s
    exact .inr ⟨_, sqT e, p.length.symm⟩
  refine ⟨1, rfl, .ref a, rfl, .ref a, l.length, rfl, hlen H1 (Same.refl _), _, _, rfl, rfl, _, _, rfl, ⟨by omega, by omega, by omega, by omega⟩, ?_⟩
  refine for_range (D := { nx := _, rt := Q }) (fun i σ H' => (∃ c5 c6 c8 c9 : Option V, σ = [some (.ref a), some (.int (d : Nat)), some (.ref R), c3, c4, c5, c6, none, c8, c9, none]) ∧ Same H1 H') ?_ ?_ ?_
  · exact ⟨⟨_, _, _, _, rfl⟩, Same.refl _⟩
  · rintro i σ H2 hi ⟨⟨c5, c6, c8, c9, rfl⟩, s2⟩
    generalize hj : (-(1 : Int) + (i : Nat)) = j
    have eR2 := s2 _ _ eR
    refine ⟨.ref R, rfl, R, rfl, ⟨ts, sqL eR2⟩, fun D nD => ?_⟩
    refine lcGen (n := ts.length) (fun i => decide ((((placesL l).getD i 0 : Nat) : Int) = j)) (fun i => ruV (ruleL (l.drop ((placesL l).getD i 0)))) nD (by omega) (fun i H3 h s3 => ⟨ts, ts[i], sqL (s3 _ _ eR2), List.getElem?_eq_getElem h⟩) (fun H3 s3 => ⟨ts, sqL (s3 _ _ eR2), Nat.le_refl _⟩) (fun i x H3 H' Qk Qn hi s3 y hk hn => ?_) (fun H3 s3 e3 => ?_)
    · obtain ⟨rfl, hx⟩ := y
      have hx := hx ts (sqL (s3 _ _ eR2))
      obtain ⟨vs, b, hv, rfl, hb⟩ := tups_got (pt.same (s2.trans s3)) hx
      rw [List.getElem?_map] at hv
      obtain ⟨p, hp, rfl⟩ := Option.map_eq_some_iff.mp hv
      rw [getD_at hp] at hk hn
      refine ⟨rfl, .ref b, rfl, b, _, 0, .int (p : Nat), rfl, rfl, sqT hb, atI_nat (j := 0) rfl, .int j, rfl, rfl, _, rfl, ?_⟩
      by_cases e : ((p : Nat) : Int) = j
      · exact iteTq (by rw [e]; exact decide_eq_true rfl) ⟨.ref b, rfl, b, _, 1, ruV (ruleL (l.drop p)), rfl, rfl, sqT hb, atI_nat (j := 1) rfl, hk _ (Same.refl _) (decide_eq_true e)⟩
      · exact iteFq (decide_eq_false fun z => e (V.int.inj z)) (hn _ (Same.refl _) (decide_eq_false e))
    · have ef : ((List.range ts.length).filter fun i => decide ((((placesL l).getD i 0 : Nat) : Int) = j)).map (fun i => ruV (ruleL (l.drop ((placesL l).getD i 0)))) = ((placesL l).filter fun p => decide (((p : Nat) : Int) = j)).map (fun p => ruV (ruleL (l.drop p))) := by
        rw [lts, ← idx_filter (placesL l) 0, List.map_map]
        rfl
      rw [ef, filter_at j _ (places_nodup l)] at e3
      have s23 := s2.trans s3
      by_cases hm : 0 ≤ j ∧ j.toNat ∈ placesL l
      · rw [if_pos hm] at e3
        obtain ⟨p, rfl⟩ := Int.eq_ofNat_of_zero_le hm.1
        obtain ⟨r, hr⟩ := mem_places.mp hm.2
        rw [Int.toNat_natCast] at e3 hr
        have e3 : H3 D = some (.lst [.str (ruN r)]) := by
          rw [e3, List.map_cons, hr]
          rfl
        refine ⟨.ref a, rfl, a, l, rfl, hrow.same s23, hl, fun D4 H4 s4 nD4 hD4 => ⟨.int (d : Nat), rfl, .int (p : Nat), rfl, .ref D4, .int (d : Nat), .int (p : Nat), rfl, .inl ⟨l, d, hD4, rfl, .inl ⟨p, r, rfl, hr, fun T5 H5 b5 s5 nT5 eT5 hb5 => ?_⟩⟩⟩⟩
        have s35 := s4.trans s5
        have e5 := s35 _ _ e3
        refine ⟨.ref D, rfl, .ref D, 1, rfl, .inl ⟨_, sqL e5, rfl⟩, rfl, _, rfl, iteFq (by decide) ?_⟩
        refine ⟨.ref T5, rfl, .ref a, rfl, .int (d : Nat), rfl, .int (p : Nat), rfl, .ref D, rfl, D, _, 0, .str (ruN r), rfl, rfl, sqL e5, atI_nat (j := 0) rfl, a, d, p, r, l, rfl, hrow.same (s23.trans s35), hl, hr, fun T6 H6 b6 s6 nT6 eT6 hb6 => ?_⟩
        refine ⟨T5, T6, b5, b6, _, _, rfl, s6 _ _ eT5, hb5.same s6, eT6, hb6, fun H7 s7 => ⟨_, rfl, iteFq rfl ?_⟩⟩
        have s37 := s35.trans (s6.trans s7)
        refine ⟨.str "", rfl, by show 2 ≤ sizeLine; decide, fun L8 nL8 => ?_⟩
        have s8 := same_upd nL8 (o := .lst [.str "place", .str ""])
        refine ⟨.ref D, rfl, .ref D, 1, rfl, .inl ⟨_, sqL (s8 _ _ (s37 _ _ e3)), rfl⟩, L8, _, 1, .str "", rfl, rfl, sqL upd_same, atI_nat (j := 1) rfl, rfl, _, rfl, iteFq (by decide) ?_⟩
        exact ⟨⟨_, _, _, _, rfl⟩, s23.trans (s37.trans s8)⟩
      · rw [if_neg hm] at e3
        refine ⟨.ref a, rfl, a, l, rfl, hrow.same s23, hl, fun D4 H4 s4 nD4 hD4 => ⟨.int (d : Nat), rfl, .int j, rfl, .ref D4, .int (d : Nat), .int j, rfl, .inl ⟨l, d, hD4, rfl, .inr ⟨.inl ⟨j, rfl, ?_⟩, fun d' H' s' e => ⟨true, T.nn, fun _ a' na => ⟨.ref a', rfl, rfl, rfl, d', _, .str "place", rfl, e, rfl, ?_⟩, fun z => Bool.noConfusion z⟩⟩⟩⟩⟩
        · by_cases h0 : j < 0
          · exact .inl h0
          · refine .inr ?_
            cases hr : ruleL (l.drop j.toNat) with
            | none => rfl
            | some r => exact absurd ⟨by omega, mem_places.mpr ⟨r, hr⟩⟩ hm
        · have s37 := s4.trans s'
          refine ⟨.str "place", rfl, by show 2 ≤ sizeLine; decide, fun L8 nL8 => ?_⟩
          have s8 := same_upd nL8 (o := .lst [.str "place", .str ""])
          refine ⟨.ref D, rfl, .ref D, 0, rfl, .inl ⟨_, sqL (s8 _ _ (s37 _ _ e3)), rfl⟩, L8, _, 0, .str "place", rfl, rfl, sqL upd_same, atI_nat (j := 0) rfl, rfl, _, rfl, iteFq (by decide) ?_⟩
          exact ⟨⟨_, _, _, _, rfl⟩, s23.trans (s37.trans s8)⟩
  · rintro σ H2 ⟨_, s2⟩
    exact q H2 s2
end
end K7

set_option Elab.async false
set_option linter.all false
set_option maxRecDepth 100000
set_option maxHeartbeats 4000000
namespace K7
open PySem PySem.Spec PyProof.Rows L2 GX NdefX K24
section
variable {P : Program} {w : World} {K : PySem.W.Frag} {mg : Str → Option Value} {base : Heap}
theorem ok_lturn {k : Nat} (B : Bl mg) (C : Cn K mg) (X : Xc P K mg) (T : Xt K X.CR X.CN) (G : Pg K mg) (L : Lg K mg) : FnOk P w K mg base (CX P w) (k + 7) L.tn.f L.tn.fd ["row", "delay", "rules"] spLTurn := by
  have GR : FnOk P w K mg base (CX P w) (k + 6) G.rsa.f G.rsa.fd ["row"] (spRulesAt X.CN) := ok_rulesAt B C X G
  have GO : FnOk P w K mg base (CX P w) (k + 6) G.on.f G.on.fd ["row", "delay"] (spOne X.CN) := ok_one B C X G
  have GL : FnOk P w K mg base CX0 (k + 6) L.ls.f L.ls.fd ["row"] spLListed := ok_llisted L.ls.F B
  have GF : FnOk P w K mg base CX0 (k + 6) L.fi.f L.fi.fd ["row", "delay", "rules"] spLFirst := ok_lfirst L.fi.F B L.bh.F L.bh.b L.bh.g
  refine L.tn.F.okX scLTurn (fun vs H Q E h => ?_) (fun cdv A outer s H vs Q E hr h => ?_)
  · obtain ⟨a, R, d, l, ts, rfl, _⟩ := h
    rfl
  · obtain ⟨a, R, d, l, ts, rfl, hrow, hl, eR, pt, q⟩ := h
    obtain ⟨tT, hT, rT⟩ := turn_for (w := w) (P := P) (base := base) B C X T G L L.tn.f cdv A outer s H Q E hr
    refine ⟨_, pss_cons (ps_set (i := 3) scLTurn.nd rfl (.inl rfl) (pe_call GR hr (by rfl) G.rsa.g G.rsa.F.kp G.rsa.b .nil (passes_call (takes_of rfl rfl rfl rfl) (fun _ _ _ _ h => h)) (pa_cons (pe_call GL hr (by rfl) L.ls.g L.ls.F.kp L.ls.b .nil pass0 (pa_cons (pv 0) pa_nil)) pa_nil)))
      (pss_cons (ps_if (PW.pt (pw_or (pt_not (pt_val (pe_callB call_isi (by rfl) B.isi (by decide +kernel) (pa_cons (pv 3) (pa_cons (pe_bltn (v := .ty "tuple") (u := .type "tuple") (by rfl) B.tuple (by decide +kernel) rfl) pa_nil)))))
        (pw_or1 (pt_cmpR (op_neD hr.units) (pe_callTy call_list_of (by rfl) B.list (by decide +kernel) (pa_cons (pv 3) pa_nil)) (pv 2) (nomark _))))) (pss_one (ps_ret pe_bl)) pss_nil)
      (pss_cons (ps_set (i := 4) scLTurn.nd rfl (.inl rfl) (pe_call GO hr (by rfl) G.on.g G.on.F.kp G.on.b .nil (passes_call (takes_of rfl rfl rfl rfl) (fun _ _ _ _ h => h)) (pa_cons (pv 0) (pa_cons (pv 1) pa_nil))))
      (pss_cons (ps_if (pt_cmpR (op_neD hr.units) (pv 4) (pe_call GF hr (by rfl) L.fi.g L.fi.F.kp L.fi.b .nil pass0 (pa_cons (pv 0) (pa_cons (pv 1) (pa_cons (pv 2) pa_nil)))) (nomark _)) (pss_one (ps_ret pe_bl)) pss_nil) hT))), ?_⟩
    refine ⟨.ref a, rfl, a, l, rfl, hrow, hl, fun D1 H1 s1 nD1 hD1 => ⟨.ref D1, rfl, .inl ⟨l, hD1, fun T2 H2 ts2 s2 nT2 eT2 pt2 => ?_⟩⟩⟩
    have s12 := s1.trans s2
    refine ⟨_, rfl, _, _, .type "tuple", _, true, rfl, .ty "tuple", .base (.tup eT2), kit_ty (by decide +kernel), true, rfl, iteF ?_⟩
    refine ⟨.ref T2, rfl, T2, ts2, rfl, .inr (sqT eT2), fun D3 nD3 => ?_⟩
    have sD := same_upd nD3 (o := .lst ts2)
    have s3 := s12.trans sD
    refine ⟨.ref R, rfl, .list ((placesL l).map (rlD l)), .list ((placesL l).map (rlD l)), .lst (sqL upd_same) (dp_rls (ts := ts2) (pt2.same sD)), .lst (sqL (s3 _ _ eR)) (dp_rls (ts := ts) (pt.same s3)), sh_rls l _, sh_rls l _, ?_⟩
    rw [SeqAt.eqv_refl (.list ((placesL l).map (rlD l))) (can_rls l _)]
    refine ⟨_, rfl, iteFq rfl ?_⟩
    refine ⟨.ref a, rfl, .int (d : Nat), rfl, .ref a, .int (d : Nat), rfl, .inl ⟨l, d, (hrow.same s3).at hl, rfl, fun h0 H4 s4 => ?_, fun p r hp hrl T4 H4 b4 s4 nT4 eT4 hb4 => ?_⟩⟩
    · have s04 := s3.trans s4
      refine ⟨.non, rfl, .ref a, rfl, .int (d : Nat), rfl, .ref R, rfl, a, R, d, l, ts, rfl, hrow.same s04, hl, s04 _ _ eR, pt.same s04, fun _ H5 s5 => ?_, fun p r hp => absurd (h0.symm.trans hp) (by simp)⟩
      refine ⟨.none, .none, .non, .non, rfl, rfl, _, rfl, iteFq rfl ?_⟩
      have s05 := s04.trans s5
      exact rT _ _ a R d l ts H5 (hrow.same s05) hl (s05 _ _ eR) (pt.same s05) fun H' s' => q H' (s05.trans s')
    · have s04 := s3.trans s4
      refine ⟨.ref T4, rfl, .ref a, rfl, .int (d : Nat), rfl, .ref R, rfl, a, R, d, l, ts, rfl, hrow.same s04, hl, s04 _ _ eR, pt.same s04, fun z => absurd (z.symm.trans hp) (by simp), fun p' r' hp' hrl' T5 H5 b5 s5 nT5 eT5 hb5 => ?_⟩
      have ep : p' = p := Option.some.inj (hp'.symm.trans hp)
      subst ep
      have er : r' = r := Option.some.inj (hrl'.symm.trans hrl)
      subst er
      have s05 := s04.trans s5
      refine ⟨tripD (useAt r' l d p').1 (useAt r' l d p').2 r', tripD (useAt r' l d p').1 (useAt r' l d p').2 r', dp_trip (s5 _ _ eT4) (hb4.same s5), dp_trip eT5 hb5, sh_trip _ _ _, sh_trip _ _ _, ?_⟩
      rw [SeqAt.eqv_refl _ (can_trip _ _ _)]
      refine ⟨_, rfl, iteFq rfl ?_⟩
      exact rT _ _ a R d l ts H5 (hrow.same s05) hl (s05 _ _ eR) (pt.same s05) fun H' s' => q H' (s05.trans s')
end
end K7

set_option Elab.async false
set_option linter.all false
set_option maxRecDepth 100000
set_option maxHeartbeats 4000000
namespace K7
open PySem PySem.Spec PyProof.Rows L2 GX NdefX K24
theorem scLRefusals : FnScope ["row", "bad", "worse", "word", "told", "clocks"] ["row"] (defScope sLRefusals) := ⟨rfl, rfl, rfl, by decide +kernel, rfl, by decide +kernel, by decide +kernel⟩
abbrev refN : List Str := ["row", "bad", "worse", "word", "told", "clocks"]
section
variable {P : Program} {w : World} {K : PySem.W.Frag} {mg : Str → Option Value} {base : Heap}
theorem refus_tail {k : Nat} (B : Bl mg) (C : Cn K mg) (X : Xc P K mg) (T : Xt K X.CR X.CN) (G : Pg K mg) (NB : Kn K mg "row_bits" sRowBits ["row", "bits", "delay"]) (NN : Kn K mg "normal" sNormal ["row", "delay"]) (L : Lg K mg) (f : Addr) (cdv : Value) (A : Around) (outer : List Env) (s : Shared) (H0 : Hp) (Q : VK) (E : XK)
    (hr : Room (k + 7) (A.deeper (envOfC "_law_refusals" (defScope sLRefusals) s.heap.objs.size f cdv))) :
    ∃ t, PSs (cxOf CX0 P w K mg base refN "_law_refusals" (defScope sLRefusals) f cdv A outer s H0 E).nox ((defBody sLRefusals).drop 2) t ∧ ∀ (c1 c2 c3 c4 c5 : Option V) (a : Addr) (l : List Clk) (H1 : Hp), RowT H1 a l → l.length ≤ 90 → (∀ H', Same H1 H' → Q (.bl true) H') →
      t { nx := fun _ H' => Q V.non H', rt := Q } [some (.ref a), c1, c2, c3, c4, c5] H1 := by
  have GW : FnOk P w K mg base CX0 (k + 7) L.wd.f L.wd.fd ["word", "row", "delay", "more"] spWord := ok_lword L.wd.F B C X T G NB NN
  refine ⟨_, (pss_cons (ps_for PassesOwn.never rfl (pi_seq (pe_tup (pa_cons pe_int (pa_cons pe_int (pa_cons pe_int pa_nil))))) (pg_name (i := 3) scLRefusals.nd rfl (.inl rfl)) (pss_one (ps_if (PW.pt (pw_or (pt_cmpR op_ne (pe_call GW hr (by rfl) L.wd.g L.wd.F.kp L.wd.b .nil pass0 (pa_cons (pv 3) (pa_cons (pv 0) (pa_cons (pe_un un_neg pe_int) (pa_cons pe_int pa_nil))))) pe_str (nomark _)) (pw_or1 (pt_cmpR op_ne (pe_call GW hr (by rfl) L.wd.g L.wd.F.kp L.wd.b .nil pass0 (pa_cons (pv 3) (pa_cons (pv 0) (pa_cons pe_bl (pa_cons pe_int pa_nil))))) pe_str (nomark _))))) (pss_one (ps_ret pe_bl)) pss_nil)))
      (pss_cons (ps_if (pt_cmpR (op_neD hr.units) (pe_lst (pa_cons (pe_call GW hr (by rfl) L.wd.g L.wd.F.kp L.wd.b .nil pass0 (pa_cons pe_int (pa_cons (pv 0) (pa_cons (pe_un un_neg pe_int) (pa_cons (pe_tup (pa_cons pe_int (pa_cons pe_int pa_nil))) pa_nil))))) (pa_cons (pe_call GW hr (by rfl) L.wd.g L.wd.F.kp L.wd.b .nil pass0 (pa_cons pe_int (pa_cons (pv 0) (pa_cons (pe_un un_neg pe_int) (pa_cons (pe_tup (pa_cons pe_int (pa_cons pe_int pa_nil))) pa_nil))))) (pa_cons (pe_call GW hr (by rfl) L.wd.g L.wd.F.kp L.wd.b .nil pass0 (pa_cons pe_int (pa_cons (pv 0) (pa_cons pe_int (pa_cons pe_int pa_nil))))) pa_nil)))) (pe_lst (pa_cons pe_int (pa_cons pe_str (pa_cons (pe_un un_neg pe_int) pa_nil)))) (nomark _)) (pss_one (ps_ret pe_bl)) pss_nil)
      (pss_cons (ps_set (i := 4) scLRefusals.nd rfl (.inl rfl) (pe_lst (pa_cons (pe_call GW hr (by rfl) L.wd.g L.wd.F.kp L.wd.b .nil pass0 (pa_cons pe_int (pa_cons (pv 0) (pa_cons pe_int (pa_cons (pe_callB call_len (by rfl) B.len PySem.boot_len (pa_cons (pv 0) pa_nil)) pa_nil))))) (pa_cons (pe_call GW hr (by rfl) L.wd.g L.wd.F.kp L.wd.b .nil pass0 (pa_cons pe_int (pa_cons (pv 0) (pa_cons pe_int (pa_cons pe_bl pa_nil))))) (pa_cons (pe_call GW hr (by rfl) L.wd.g L.wd.F.kp L.wd.b .nil pass0 (pa_cons pe_int (pa_cons (pe_lst pa_nil) (pa_cons pe_int (pa_cons pe_int pa_nil))))) pa_nil)))))
      (pss_one (ps_ret (pe_cmpR (op_eqD hr.units) (pv 4) (pe_lst (pa_cons pe_str (pa_cons pe_str (pa_cons pe_str pa_nil)))) (nomark _))))))), ?_⟩
  intro c1 c2 c3 c4 c5 a l H1 hrow hl q
  have hat : ∀ H', Same H1 H' → RowAt H' (.ref a) l := fun H' s => (hrow.same s).at (by omega)
  refine ⟨by show 3 ≤ sizeLine; decide, fun Z nZ => ?_⟩
  have sZ := same_upd nZ (o := .tup [.int 2, .int 3, .int 5])
  refine ⟨Z, [.int 2, .int 3, .int 5], rfl, forSeq (D := { nx := _, rt := Q }) (fun i σ H' => (∃ c3 : Option V, σ = [some (.ref a), c1, c2, c3, c4, c5]) ∧ Same H1 H' ∧ H' Z = some (.tup [.int 2, .int 3, .int 5])) (.inr upd_same) ⟨⟨_, rfl⟩, sZ, upd_same⟩ (fun i σ H' o p e => by rw [upd_same] at e; rw [p.2.2]; exact e) ?_ ?_⟩
  · rintro i x σ H2 hx ⟨⟨c3', rfl⟩, s2, eZ⟩
    obtain ⟨wd, rfl, hwd⟩ : ∃ wd : Nat, x = .int (wd : Nat) ∧ (wd = 2 ∨ wd = 3 ∨ wd = 5) := by
      match i, hx with
      | 0, hx => cases hx; exact ⟨2, rfl, .inl rfl⟩
      | 1, hx => cases hx; exact ⟨3, rfl, .inr (.inl rfl)⟩
      | 2, hx => cases hx; exact ⟨5, rfl, .inr (.inr rfl)⟩
    refine ⟨.int (wd : Nat), rfl, .ref a, rfl, 1, rfl, wd, .ref a, .int (-1), .int 99, .str "delay", rfl, by omega, .inr ⟨l, hat _ s2, .inr (.inr (.inl ⟨hwd, .inl ⟨_, rfl⟩, rfl, rfl⟩))⟩, fun H3 s3 => ⟨rfl, _, rfl, iteFq (by decide) ?_⟩⟩
    refine ⟨.int (wd : Nat), rfl, .ref a, rfl, wd, .ref a, .bl true, .int 99, .str "delay", rfl, by omega, .inr ⟨l, hat _ (s2.trans s3), .inr (.inr (.inl ⟨hwd, .inr (.inl ⟨_, rfl⟩), rfl, rfl⟩))⟩, fun H4 s4 => ⟨rfl, _, rfl, iteFq (by decide) ?_⟩⟩
    exact ⟨⟨_, rfl⟩, s2.trans (s3.trans s4), s4 _ _ (s3 _ _ eZ)⟩
  · rintro σ H2 ⟨⟨c3', rfl⟩, s2, eZ⟩
    refine ⟨.ref a, rfl, 1, rfl, by show 2 ≤ sizeLine; decide, fun U nU => ?_⟩
    have sU := same_upd nU (o := .tup [.int 0, .int 2])
    have s3 := s2.trans sU
    refine ⟨1, .ref a, .int (-1), .ref U, .int 1, rfl, by decide, .inr ⟨l, hat _ s3, .inr (.inl ⟨rfl, .inr (.inl ⟨false, 2, ⟨U, rfl, .inr upd_same, by decide⟩, rfl⟩)⟩)⟩, fun H4 s4 => ?_⟩
    refine ⟨.ref a, rfl, 1, rfl, by show 2 ≤ sizeLine; decide, fun V1 nV => ?_⟩
    have sV := same_upd nV (o := .tup [.int 0, .int 1])
    have s5 := s3.trans (s4.trans sV)
    refine ⟨1, .ref a, .int (-1), .ref V1, .str "delay", rfl, by decide, .inr ⟨l, hat _ s5, .inr (.inl ⟨rfl, .inr (.inr ⟨[false, true], ⟨V1, rfl, .inr upd_same, by decide⟩, .inl ⟨_, rfl⟩, rfl, rfl⟩)⟩)⟩, fun H6 s6 => ?_⟩
    have s06 := s5.trans s6
    refine ⟨.ref a, rfl, 1, .ref a, .int 0, .int 5, .int (-1), rfl, by decide, .inr ⟨l, hat _ s06, .inr (.inl ⟨rfl, .inl ⟨(by first | exact .inl ⟨_, rfl⟩ | exact .inr (.inl ⟨_, rfl⟩) | exact .inr (.inr ⟨_, rfl⟩) | exact .inr (.inr (.inl ⟨_, rfl⟩)) | exact .int _), rfl⟩⟩)⟩, fun H7 s7 => ?_⟩
    refine ⟨by show 3 ≤ sizeLine; decide, fun A1 nA => ⟨1, rfl, by show 3 ≤ sizeLine; decide, fun B1 nB => ?_⟩⟩
    have s07 := s06.trans s7
    have sA := same_upd nA (o := .lst [.int 1, .str "delay", .int (-1)])
    have sB := same_upd nB (o := .lst [.int 1, .str "delay", .int (-1)])
    refine ⟨.list [.int 1, .str "delay", .int (-1)], .list [.int 1, .str "delay", .int (-1)], .lst (sqL (sB _ _ upd_same)) (.cons (.int _) (.cons (.str _) (.cons (.int _) .nil))), .lst (sqL upd_same) (.cons (.int _) (.cons (.str _) (.cons (.int _) .nil))), by decide +kernel, by decide +kernel, ?_⟩
    rw [SeqAt.eqv_refl (.list [.int 1, .str "delay", .int (-1)]) (by decide +kernel)]
    refine ⟨_, rfl, iteFq rfl ?_⟩
    have s08 := s07.trans (sA.trans sB)
    have len : LenV K (.ref a) (upd (upd H7 A1 (.lst [.int 1, .str "delay", .int (-1)])) B1 (.lst [.int 1, .str "delay", .int (-1)])) l.length := by
      obtain ⟨xs, e, p⟩ := hrow.same s08
      exact .inr ⟨_, sqT e, p.length.symm⟩
    refine ⟨.ref a, rfl, .ref a, rfl, .ref a, l.length, rfl, len, ?_⟩
    refine ⟨5, .ref a, .int 0, .int (l.length : Nat), .str "place", rfl, by decide, .inr ⟨l, hat _ s08, .inr (.inr (.inr ⟨rfl, ⟨0, rfl⟩, .inl ⟨_, rfl, .inr ?_⟩, rfl⟩))⟩, fun H9 s9 => ?_⟩
    · rw [Int.toNat_natCast, List.drop_eq_nil_of_le (Nat.le_refl _)]
      rfl
    have s09 := s08.trans s9
    refine ⟨.ref a, rfl, 5, .ref a, .int 0, .bl true, .str "place", rfl, by decide, .inr ⟨l, hat _ s09, .inr (.inr (.inr ⟨rfl, ⟨0, rfl⟩, .inr ⟨_, rfl⟩, rfl⟩))⟩, fun H10 s10 => ?_⟩
    refine ⟨Nat.zero_le _, fun C1 nC => ?_⟩
    refine ⟨0, .ref C1, .int 0, .int 0, .str "let", rfl, by decide, .inr ⟨[], ⟨C1, [], rfl, .inl upd_same, .nil, Nat.zero_le _⟩, .inl ⟨rfl, rfl⟩⟩, fun H11 s11 => ?_⟩
    have s011 := s09.trans (s10.trans ((same_upd nC (o := .lst [])).trans s11))
    refine ⟨by show 3 ≤ sizeLine; decide, fun D1 nD => ⟨.ref D1, rfl, by show 3 ≤ sizeLine; decide, fun E1 nE => ?_⟩⟩
    have sD := same_upd nD (o := .lst [.str "place", .str "place", .str "let"])
    have sE := same_upd nE (o := .lst [.str "place", .str "place", .str "let"])
    refine ⟨.list [.str "place", .str "place", .str "let"], .list [.str "place", .str "place", .str "let"], .lst (sqL (sE _ _ upd_same)) (.cons (.str _) (.cons (.str _) (.cons (.str _) .nil))), .lst (sqL upd_same) (.cons (.str _) (.cons (.str _) (.cons (.str _) .nil))), by decide +kernel, by decide +kernel, ?_⟩
    rw [SeqAt.eqv_refl (.list [.str "place", .str "place", .str "let"]) (by decide +kernel)]
    exact q _ (s011.trans (sD.trans sE))
end
end K7

set_option Elab.async false
set_option linter.all false
set_option maxRecDepth 100000
set_option maxHeartbeats 4000000
namespace K7
open PySem PySem.Spec PyProof.Rows L2 GX NdefX K24
def BadT (H : Hp) (x : V) : Prop := ∃ b xs i y l, x = .ref b ∧ H b = some (.tup xs) ∧ ClksT H (xs.take i) l ∧ xs[i]? = some y ∧ BadClk H y
theorem BadT.same {H H' : Hp} {x : V} (s : Same H H') (h : BadT H x) : BadT H' x := by
  obtain ⟨b, xs, i, y, l, e, h1, h2, h3, h4⟩ := h
  exact ⟨b, xs, i, y, l, e, s _ _ h1, h2.same s, h3, h4.same s⟩
theorem BadClk.upd {H : Hp} {D : Addr} {o : HO} {us : List V} {y : V} (e : H D = some (.lst us)) (h : BadClk H y) : BadClk (upd H D o) y := h.elim .inl fun ⟨b, ys, e1, h, r⟩ => .inr ⟨b, ys, e1, by rw [upd_ne (fun z => by rw [z, e] at h; cases h)]; exact h, r⟩
theorem BadT.upd {H : Hp} {D : Addr} {o : HO} {us : List V} {x : V} (e : H D = some (.lst us)) (h : BadT H x) : BadT (upd H D o) x := by
  obtain ⟨b, xs, i, y, l, e1, h1, h2, h3, h4⟩ := h
  exact ⟨b, xs, i, y, l, e1, by rw [upd_ne (fun z => by rw [z, e] at h1; cases h1)]; exact h1, clks_upd e h2, h3, h4.upd e⟩
theorem BadT.row {H : Hp} {x : V} (h : BadT H x) : BadRowV H x := by
  obtain ⟨b, xs, i, y, l, e1, h1, h2, h3, h4⟩ := h
  exact .inr ⟨b, xs, i, y, l, e1, h1, paired_imp (fun _ _ ⟨a, e, h⟩ => ⟨a, e, .inr h⟩) h2, h3, h4⟩
theorem paired_mem {α β : Type} {F : α → β → Prop} {xs : List α} {ys : List β} (p : Paired F xs ys) {x : α} (h : x ∈ xs) : ∃ y, F x y := by
  induction p with
  | nil => cases h
  | cons f _ ih =>
    rcases List.mem_cons.mp h with rfl | h
    · exact ⟨_, f⟩
    · exact ih h
def spRefus : Sp := fun vs H Q _ => ∃ (a : Addr) (l : List Clk), vs = [.ref a] ∧ RowT H a l ∧ l.length ≤ 90 ∧ ∀ H', Same H H' → Q (.bl true) H'
section
variable {P : Program} {w : World} {K : PySem.W.Frag} {mg : Str → Option Value} {base : Heap}
theorem ok_refus {k : Nat} (B : Bl mg) (C : Cn K mg) (X : Xc P K mg) (T : Xt K X.CR X.CN) (G : Pg K mg) (NB : Kn K mg "row_bits" sRowBits ["row", "bits", "delay"]) (NN : Kn K mg "normal" sNormal ["row", "delay"]) (L : Lg K mg) : FnOk P w K mg base CX0 (k + 8) L.rf.f L.rf.fd ["row"] spRefus := by
  have GW : FnOk P w K mg base CX0 (k + 7) L.wd.f L.wd.fd ["word", "row", "delay", "more"] spWord := ok_lword L.wd.F B C X T G NB NN
  refine L.rf.F.ok scLRefusals (fun vs H Q E h => ?_) (fun cdv A outer s H vs Q E hr h => ?_)
  · obtain ⟨a, l, rfl, _⟩ := h
    rfl
  · obtain ⟨a, l, rfl, hrow, hl, q⟩ := h
    obtain ⟨tT, hT, rT⟩ := refus_tail (w := w) (P := P) (base := base) B C X T G NB NN L L.rf.f cdv A outer s H Q E hr
    refine ⟨_, (pss_cons (ps_set (i := 1) scLRefusals.nd rfl (.inl rfl) (pe_lst (pa_cons (pe_tup (pa_cons (pe_tup (pa_cons pe_str (pa_cons (pe_un un_neg pe_int) pa_nil))) pa_nil)) (pa_cons (pe_tup (pa_cons (pe_tup (pa_cons pe_str (pa_cons pe_int pa_nil))) pa_nil)) (pa_cons (pe_tup (pa_cons (pe_tup (pa_cons pe_str (pa_cons pe_bl pa_nil))) pa_nil)) (pa_cons (pe_tup (pa_cons (pe_tup (pa_cons pe_str (pa_cons pe_int pa_nil))) pa_nil)) (pa_cons (pe_tup (pa_cons (pe_tup (pa_cons pe_str (pa_cons pe_int (pa_cons pe_int pa_nil)))) pa_nil)) (pa_cons (pe_tup (pa_cons pe_int pa_nil)) (pa_cons (pe_tup (pa_cons (pe_tup (pa_cons pe_str (pa_cons pe_str pa_nil))) pa_nil)) pa_nil)))))))))
      (pss_cons (ps_for PassesOwn.never rfl (pi_seq (pe_op op_cat (pe_op op_cat (pe_lst (pa_cons pe_str (pa_cons pe_non pa_nil))) (pe_lc (own := [("clocks", 5)]) (g := gName 5) (tt := tYes) rfl scLRefusals.nd (pi_list (pv 1)) (blkOk_by (own := [("clocks", 5)]) (N := refN) (sc := defScope sLRefusals) (by decide +kernel)) (fun _ _ _ _ _ => pg_name (i := 5) scLRefusals.nd rfl (Or.inl rfl)) (fun _ _ _ _ _ => pts_nil) (fun _ _ _ _ _ => pe_op (r := rCatA K) op_catA (pv 0) (pv 5)))) (pe_lc (own := [("clocks", 5)]) (g := gName 5) (tt := tYes) rfl scLRefusals.nd (pi_list (pv 1)) (blkOk_by (own := [("clocks", 5)]) (N := refN) (sc := defScope sLRefusals) (by decide +kernel)) (fun _ _ _ _ _ => pg_name (i := 5) scLRefusals.nd rfl (Or.inl rfl)) (fun _ _ _ _ _ => pts_nil) (fun _ _ _ _ _ => pe_op (r := rCatA K) op_catA (pv 5) (pv 0))))) (pg_name (i := 2) scLRefusals.nd rfl (.inl rfl)) (pss_one (ps_for PassesOwn.never rfl (pi_range1 (by rfl) B.range (pa_cons pe_int pa_nil)) (pg_name (i := 3) scLRefusals.nd rfl (.inl rfl)) (pss_one (ps_if (pt_cmpR op_ne (pe_call GW hr (by rfl) L.wd.g L.wd.F.kp L.wd.b .nil pass0 (pa_cons (pv 3) (pa_cons (pv 2) (pa_cons (pe_un un_neg pe_int) (pa_cons pe_int pa_nil))))) pe_str (nomark _)) (pss_one (ps_ret pe_bl)) pss_nil)))))
      hT)), ?_⟩
    obtain ⟨xs, ha, pl⟩ := id hrow
    have lxs : xs.length = l.length := pl.length
    refine ⟨1, rfl, by show 2 ≤ sizeLine; decide, fun A0 nA0 => ⟨by show 1 ≤ sizeLine; decide, fun B0 nB0 => ?_⟩⟩
    have sA0 := same_upd nA0 (o := .tup [.str "on", .int (-1)])
    have sB0 := same_upd nB0 (o := .tup [.ref A0])
    refine ⟨by show 2 ≤ sizeLine; decide, fun A1 nA1 => ⟨by show 1 ≤ sizeLine; decide, fun B1 nB1 => ?_⟩⟩
    have sA1 := same_upd nA1 (o := .tup [.str "On", .int 1])
    have sB1 := same_upd nB1 (o := .tup [.ref A1])
    refine ⟨by show 2 ≤ sizeLine; decide, fun A2 nA2 => ⟨by show 1 ≤ sizeLine; decide, fun B2 nB2 => ?_⟩⟩
    have sA2 := same_upd nA2 (o := .tup [.str "on", .bl true])
    have sB2 := same_upd nB2 (o := .tup [.ref A2])
    refine ⟨by show 2 ≤ sizeLine; decide, fun A3 nA3 => ⟨by show 1 ≤ sizeLine; decide, fun B3 nB3 => ?_⟩⟩
    have sA3 := same_upd nA3 (o := .tup [.str "pulse", .int 1])
    have sB3 := same_upd nB3 (o := .tup [.ref A3])
    refine ⟨by show 3 ≤ sizeLine; decide, fun A4 nA4 => ⟨by show 1 ≤ sizeLine; decide, fun B4 nB4 => ?_⟩⟩
    have sA4 := same_upd nA4 (o := .tup [.str "on", .int 1, .int 1])
    have sB4 := same_upd nB4 (o := .tup [.ref A4])
    refine ⟨by show 1 ≤ sizeLine; decide, fun B5 nB5 => ?_⟩
    have sB5 := same_upd nB5 (o := .tup [.int 3])
    refine ⟨by show 2 ≤ sizeLine; decide, fun A6 nA6 => ⟨by show 1 ≤ sizeLine; decide, fun B6 nB6 => ?_⟩⟩
    have sA6 := same_upd nA6 (o := .tup [.str "off", .str "1"])
    have sB6 := same_upd nB6 (o := .tup [.ref A6])
    refine ⟨by show 7 ≤ sizeLine; decide, fun L1 nL => ?_⟩
    have sL := same_upd nL (o := .lst [V.ref B0, V.ref B1, V.ref B2, V.ref B3, V.ref B4, V.ref B5, V.ref B6])
    have s0 := (sA0.trans (sB0.trans (sA1.trans (sB1.trans (sA2.trans (sB2.trans (sA3.trans (sB3.trans (sA4.trans (sB4.trans (sB5.trans (sA6.trans (sB6.trans sL)))))))))))))
    have eB0 := (sA1.trans (sB1.trans (sA2.trans (sB2.trans (sA3.trans (sB3.trans (sA4.trans (sB4.trans (sB5.trans (sA6.trans (sB6.trans sL))))))))))) _ _ (upd_same (a := B0))
    have eA0 := (sB0.trans (sA1.trans (sB1.trans (sA2.trans (sB2.trans (sA3.trans (sB3.trans (sA4.trans (sB4.trans (sB5.trans (sA6.trans (sB6.trans sL)))))))))))) _ _ (upd_same (a := A0))
    have eB1 := (sA2.trans (sB2.trans (sA3.trans (sB3.trans (sA4.trans (sB4.trans (sB5.trans (sA6.trans (sB6.trans sL))))))))) _ _ (upd_same (a := B1))
    have eA1 := (sB1.trans (sA2.trans (sB2.trans (sA3.trans (sB3.trans (sA4.trans (sB4.trans (sB5.trans (sA6.trans (sB6.trans sL)))))))))) _ _ (upd_same (a := A1))
    have eB2 := (sA3.trans (sB3.trans (sA4.trans (sB4.trans (sB5.trans (sA6.trans (sB6.trans sL))))))) _ _ (upd_same (a := B2))
    have eA2 := (sB2.trans (sA3.trans (sB3.trans (sA4.trans (sB4.trans (sB5.trans (sA6.trans (sB6.trans sL)))))))) _ _ (upd_same (a := A2))
    have eB3 := (sA4.trans (sB4.trans (sB5.trans (sA6.trans (sB6.trans sL))))) _ _ (upd_same (a := B3))
    have eA3 := (sB3.trans (sA4.trans (sB4.trans (sB5.trans (sA6.trans (sB6.trans sL)))))) _ _ (upd_same (a := A3))
    have eB4 := (sB5.trans (sA6.trans (sB6.trans sL))) _ _ (upd_same (a := B4))
    have eA4 := (sB4.trans (sB5.trans (sA6.trans (sB6.trans sL)))) _ _ (upd_same (a := A4))
    have eB5 := (sA6.trans (sB6.trans sL)) _ _ (upd_same (a := B5))
    have eB6 := sL _ _ (upd_same (a := B6))
    have eA6 := (sB6.trans sL) _ _ (upd_same (a := A6))
    have bads : ∀ (i : Nat) (x : V), ([V.ref B0, V.ref B1, V.ref B2, V.ref B3, V.ref B4, V.ref B5, V.ref B6] : List V)[i]? = some x → ∃ b y, x = .ref b ∧ (upd (upd (upd (upd (upd (upd (upd (upd (upd (upd (upd (upd (upd (upd (H) A0 (.tup [.str "on", .int (-1)])) B0 (.tup [.ref A0])) A1 (.tup [.str "On", .int 1])) B1 (.tup [.ref A1])) A2 (.tup [.str "on", .bl true])) B2 (.tup [.ref A2])) A3 (.tup [.str "pulse", .int 1])) B3 (.tup [.ref A3])) A4 (.tup [.str "on", .int 1, .int 1])) B4 (.tup [.ref A4])) B5 (.tup [.int 3])) A6 (.tup [.str "off", .str "1"])) B6 (.tup [.ref A6])) L1 (.lst [V.ref B0, V.ref B1, V.ref B2, V.ref B3, V.ref B4, V.ref B5, V.ref B6])) b = some (.tup [y]) ∧ BadClk (upd (upd (upd (upd (upd (upd (upd (upd (upd (upd (upd (upd (upd (upd (H) A0 (.tup [.str "on", .int (-1)])) B0 (.tup [.ref A0])) A1 (.tup [.str "On", .int 1])) B1 (.tup [.ref A1])) A2 (.tup [.str "on", .bl true])) B2 (.tup [.ref A2])) A3 (.tup [.str "pulse", .int 1])) B3 (.tup [.ref A3])) A4 (.tup [.str "on", .int 1, .int 1])) B4 (.tup [.ref A4])) B5 (.tup [.int 3])) A6 (.tup [.str "off", .str "1"])) B6 (.tup [.ref A6])) L1 (.lst [V.ref B0, V.ref B1, V.ref B2, V.ref B3, V.ref B4, V.ref B5, V.ref B6])) y := fun i x hx => by
      match i, hx with
      | 0, hx => cases hx; exact ⟨B0, _, rfl, eB0, .inr ⟨_, _, rfl, eA0, .inr ⟨"on", .int (-1), rfl, .inr ⟨by decide, .inl ⟨_, rfl⟩, by decide⟩⟩⟩⟩
      | 1, hx => cases hx; exact ⟨B1, _, rfl, eB1, .inr ⟨_, _, rfl, eA1, .inr ⟨"On", .int 1, rfl, .inl (by decide)⟩⟩⟩
      | 2, hx => cases hx; exact ⟨B2, _, rfl, eB2, .inr ⟨_, _, rfl, eA2, .inr ⟨"on", .bl true, rfl, .inr ⟨by decide, .inr (.inl ⟨_, rfl⟩), by decide⟩⟩⟩⟩
      | 3, hx => cases hx; exact ⟨B3, _, rfl, eB3, .inr ⟨_, _, rfl, eA3, .inr ⟨"pulse", .int 1, rfl, .inl (by decide)⟩⟩⟩
      | 4, hx => cases hx; exact ⟨B4, _, rfl, eB4, .inr ⟨_, _, rfl, eA4, .inl ⟨by decide, by decide⟩⟩⟩
      | 5, hx => cases hx; exact ⟨B5, _, rfl, eB5, .inl ⟨3, rfl⟩⟩
      | 6, hx => cases hx; exact ⟨B6, _, rfl, eB6, .inr ⟨_, _, rfl, eA6, .inr ⟨"off", .str "1", rfl, .inr ⟨by decide, .inr (.inr ⟨_, rfl⟩), by decide⟩⟩⟩⟩
    have eL : (upd (upd (upd (upd (upd (upd (upd (upd (upd (upd (upd (upd (upd (upd (H) A0 (.tup [.str "on", .int (-1)])) B0 (.tup [.ref A0])) A1 (.tup [.str "On", .int 1])) B1 (.tup [.ref A1])) A2 (.tup [.str "on", .bl true])) B2 (.tup [.ref A2])) A3 (.tup [.str "pulse", .int 1])) B3 (.tup [.ref A3])) A4 (.tup [.str "on", .int 1, .int 1])) B4 (.tup [.ref A4])) B5 (.tup [.int 3])) A6 (.tup [.str "off", .str "1"])) B6 (.tup [.ref A6])) L1 (.lst [V.ref B0, V.ref B1, V.ref B2, V.ref B3, V.ref B4, V.ref B5, V.ref B6])) L1 = some (.lst [V.ref B0, V.ref B1, V.ref B2, V.ref B3, V.ref B4, V.ref B5, V.ref B6]) := upd_same
    have s1 : Same H (upd (upd (upd (upd (upd (upd (upd (upd (upd (upd (upd (upd (upd (upd (H) A0 (.tup [.str "on", .int (-1)])) B0 (.tup [.ref A0])) A1 (.tup [.str "On", .int 1])) B1 (.tup [.ref A1])) A2 (.tup [.str "on", .bl true])) B2 (.tup [.ref A2])) A3 (.tup [.str "pulse", .int 1])) B3 (.tup [.ref A3])) A4 (.tup [.str "on", .int 1, .int 1])) B4 (.tup [.ref A4])) B5 (.tup [.int 3])) A6 (.tup [.str "off", .str "1"])) B6 (.tup [.ref A6])) L1 (.lst [V.ref B0, V.ref B1, V.ref B2, V.ref B3, V.ref B4, V.ref B5, V.ref B6])) := s0
    have ha1 := s1 _ _ ha
    change tSeq _ _ _ _ (upd (upd (upd (upd (upd (upd (upd (upd (upd (upd (upd (upd (upd (upd (H) A0 (.tup [.str "on", .int (-1)])) B0 (.tup [.ref A0])) A1 (.tup [.str "On", .int 1])) B1 (.tup [.ref A1])) A2 (.tup [.str "on", .bl true])) B2 (.tup [.ref A2])) A3 (.tup [.str "pulse", .int 1])) B3 (.tup [.ref A3])) A4 (.tup [.str "on", .int 1, .int 1])) B4 (.tup [.ref A4])) B5 (.tup [.int 3])) A6 (.tup [.str "off", .str "1"])) B6 (.tup [.ref A6])) L1 (.lst [V.ref B0, V.ref B1, V.ref B2, V.ref B3, V.ref B4, V.ref B5, V.ref B6]))
    generalize upd (upd (upd (upd (upd (upd (upd (upd (upd (upd (upd (upd (upd (upd (H) A0 (.tup [.str "on", .int (-1)])) B0 (.tup [.ref A0])) A1 (.tup [.str "On", .int 1])) B1 (.tup [.ref A1])) A2 (.tup [.str "on", .bl true])) B2 (.tup [.ref A2])) A3 (.tup [.str "pulse", .int 1])) B3 (.tup [.ref A3])) A4 (.tup [.str "on", .int 1, .int 1])) B4 (.tup [.ref A4])) B5 (.tup [.int 3])) A6 (.tup [.str "off", .str "1"])) B6 (.tup [.ref A6])) L1 (.lst [V.ref B0, V.ref B1, V.ref B2, V.ref B3, V.ref B4, V.ref B5, V.ref B6]) = G1 at s1 bads eL ha1 ⊢
    refine ⟨by show 2 ≤ sizeLine; decide, fun Z nZ => ?_⟩
    have sZ := same_upd nZ (o := .lst [.str "on", .non])
    have eZ : upd G1 Z (.lst [.str "on", .non]) Z = some (.lst [.str "on", .non]) := upd_same
    have eL1 := sZ _ _ eL
    refine ⟨.ref L1, rfl, L1, rfl, ⟨_, sqL eL1⟩, fun D nD => ?_⟩
    refine lcPred (n := 7) (fun _ => true) (fun _ H x => BadT H x) (fun i H H' x s h => h.same s) (fun i H x us ys e h => h.upd e) nD (by decide) (fun i H2 h s2 => ⟨_, _, sqL (s2 _ _ eL1), List.getElem?_eq_getElem (l := [V.ref B0, V.ref B1, V.ref B2, V.ref B3, V.ref B4, V.ref B5, V.ref B6]) h⟩) (fun H2 s2 => ⟨_, sqL (s2 _ _ eL1), Nat.le_refl _⟩) (fun i x H2 H' Qk Qn hi s2 _ y hk _ => ?_) (fun HD tD sD eD pD => ?_)
    · obtain ⟨rfl, hx⟩ := y
      have hx := hx _ (sqL (s2 _ _ eL1))
      obtain ⟨b, y1, rfl, hb, hy⟩ := bads i x hx
      have s2x := sZ.trans s2
      have hb2 := s2x _ _ hb
      have hx2 := (sZ.trans s2) _ _ ha1
      refine ⟨rfl, ?_⟩
      delta tYes
      refine iteT ?_
      exact ⟨.ref a, rfl, .ref b, rfl, catA hx2 hb2 (by rw [lxs]; show l.length + 1 ≤ 1000; omega) fun p H5 s5 e5 => hk _ _ rfl ⟨p, _, xs.length, y1, l, rfl, e5, by rw [List.take_left]; exact (ClksT.same (s1.trans (sZ.trans s2)) pl).same s5, by rw [List.getElem?_append_right (Nat.le_refl _), Nat.sub_self]; rfl, (hy.same s2x).same s5⟩ s5⟩
    have eZ3 := sD _ _ eZ
    have l1 : tD.length = 7 := pD.length.trans (by decide)
    refine ⟨Z, D, _, tD, rfl, rfl, eZ3, eD, by rw [l1, sizeLine_eq]; decide, fun Y nY => ?_⟩
    have sY := same_upd nY (o := .lst ([.str "on", .non] ++ tD))
    have eY : upd HD Y (.lst ([.str "on", .non] ++ tD)) Y = some (.lst ([.str "on", .non] ++ tD)) := upd_same
    have sGY := sZ.trans (sD.trans sY)
    have eL2 := sGY _ _ eL
    refine ⟨.ref L1, rfl, L1, rfl, ⟨_, sqL eL2⟩, fun E1 nE1 => ?_⟩
    refine lcPred (n := 7) (fun _ => true) (fun _ H x => BadT H x) (fun i H H' x s h => h.same s) (fun i H x us ys e h => h.upd e) nE1 (by decide) (fun i H2 h s2 => ⟨_, _, sqL (s2 _ _ eL2), List.getElem?_eq_getElem (l := [V.ref B0, V.ref B1, V.ref B2, V.ref B3, V.ref B4, V.ref B5, V.ref B6]) h⟩) (fun H2 s2 => ⟨_, sqL (s2 _ _ eL2), Nat.le_refl _⟩) (fun i x H2 H' Qk Qn hi s2 _ y hk _ => ?_) (fun HE1 tE1 sE1 eE1 pE1 => ?_)
    · obtain ⟨rfl, hx⟩ := y
      have hx := hx _ (sqL (s2 _ _ eL2))
      obtain ⟨b, y1, rfl, hb, hy⟩ := bads i x hx
      have s2x := sGY.trans s2
      have hb2 := s2x _ _ hb
      have hx2 := (sGY.trans s2) _ _ ha1
      refine ⟨rfl, ?_⟩
      delta tYes
      refine iteT ?_
      exact ⟨.ref b, rfl, .ref a, rfl, catA hb2 hx2 (by rw [lxs]; show 1 + l.length ≤ 1000; omega) fun p H5 s5 e5 => hk _ _ rfl ⟨p, _, 0, y1, [], rfl, e5, .nil, rfl, (hy.same s2x).same s5⟩ s5⟩
    have l2 : tE1.length = 7 := pE1.length.trans (by decide)
    refine ⟨Y, E1, _, tE1, rfl, rfl, sE1 _ _ eY, eE1, by rw [List.length_append, l1, l2, sizeLine_eq]; decide, fun W nW => ?_⟩
    have sW := same_upd nW (o := .lst (([.str "on", .non] ++ tD) ++ tE1))
    have sEW := sE1.trans sW
    have all : ∀ x ∈ ([.str "on", .non] ++ tD) ++ tE1, BadRowV (upd HE1 W (.lst (([.str "on", .non] ++ tD) ++ tE1))) x := by
      intro x hx
      rcases List.mem_append.mp hx with hx | hx
      · rcases List.mem_append.mp hx with hx | hx
        · rcases List.mem_cons.mp hx with rfl | hx
          · exact .inl (.inr (.inr ⟨_, rfl⟩))
          · rw [List.mem_singleton.mp hx]
            exact .inl (.inl rfl)
        · obtain ⟨_, h⟩ := paired_mem pD hx
          exact (h.same (sY.trans sEW)).row
      · obtain ⟨_, h⟩ := paired_mem pE1 hx
        exact (h.same sW).row
    have s5 : Same H (upd HE1 W (.lst (([.str "on", .non] ++ tD) ++ tE1))) := s1.trans (sGY.trans sEW)
    refine ⟨W, _, rfl, forSeq (D := { nx := _, rt := Q }) (fun i σ H' => (∃ c2 c3 : Option V, σ = [some (.ref a), some (.ref L1), c2, c3, none, none]) ∧ Same (upd HE1 W (.lst (([.str "on", .non] ++ tD) ++ tE1))) H') (.inl upd_same) ⟨⟨_, _, rfl⟩, Same.refl _⟩ (fun i σ H' o p e => p.2 _ _ e) ?_ ?_⟩
    · rintro i x σ H2 hx ⟨⟨c2, c3, rfl⟩, s6⟩
      have hb := (all x (List.mem_of_getElem? hx)).same s6
      refine ⟨6, rfl, by decide, by decide, ?_⟩
      refine for_range (D := { nx := _, rt := Q }) (fun i σ H' => (∃ c3 : Option V, σ = [some (.ref a), some (.ref L1), some x, c3, none, none]) ∧ Same H2 H') ⟨⟨_, rfl⟩, Same.refl _⟩ ?_ ?_
      · rintro j σ H3 hj ⟨⟨c3, rfl⟩, s7⟩
        have hj : j < 6 := hj
        have ej : (0 : Int) + (j : Nat) = ((j : Nat) : Int) := by omega
        refine ⟨.int ((0 : Int) + (j : Nat)), rfl, x, rfl, 1, rfl, j, x, .int (-1), .int 7, .str "row", by rw [ej]; rfl, by omega, .inl ⟨hb.same s7, rfl⟩, fun H4 s4 => ⟨rfl, _, rfl, iteFq (by decide) ?_⟩⟩
        exact ⟨⟨_, rfl⟩, s7.trans s4⟩
      · rintro σ H3 ⟨⟨c3, rfl⟩, s7⟩
        exact ⟨⟨_, _, rfl⟩, s6.trans s7⟩
    · rintro σ H2 ⟨⟨c2, c3, rfl⟩, s6⟩
      exact rT _ _ _ _ _ a l H2 (hrow.same (s5.trans s6)) hl fun H' s' => q H' ((s5.trans s6).trans s')
end
end K7

set_option Elab.async false
set_option linter.all false
set_option maxRecDepth 100000
set_option maxHeartbeats 4000000
namespace K7
open PySem PySem.Spec PyProof.Rows L2 GX NdefX K24
abbrev lawN : List Str := ["script", "numbers", "row", "delay", "bits", "due", "sums", "way", "turn", "rules", "told", "place", "rule", "many", "first", "late"]
theorem scLaw : FnScope lawN ["script"] (defScope sLaw) := ⟨rfl, rfl, rfl, by decide +kernel, rfl, by decide +kernel, by decide +kernel⟩
def WayT (H : Hp) (x : V) (v : List Clk × Nat) : Prop := ∃ T b, x = .ref T ∧ H T = some (.tup [.ref b, .int (v.2 : Nat)]) ∧ RowT H b v.1
theorem WayT.same {H H' : Hp} {x : V} {v : List Clk × Nat} (s : Same H H') (h : WayT H x v) : WayT H' x v := by
  obtain ⟨T, b, e, h1, h2⟩ := h
  exact ⟨T, b, e, s _ _ h1, h2.same s⟩
theorem led_same {l : List Clk} {d : Nat} {l1 l2 : List Clk} {d1 d2 : Nat} (h1 : Led l d l1 d1) (n1 : Norm l1) (h2 : Led l d l2 d2) (n2 : Norm l2) : l1 = l2 ∧ d1 = d2 := norm_unique n1 n2 (h1.1.trans h2.1.symm) (h1.2.trans h2.2.symm)
theorem Led.trans {l l1 l2 : List Clk} {d d1 d2 : Nat} (h : Led l d l1 d1) (k : Led l1 d1 l2 d2) : Led l d l2 d2 := ⟨k.1.trans h.1, k.2.trans h.2⟩
section
variable {P : Program} {w : World} {K : PySem.W.Frag} {mg : Str → Option Value} {base : Heap}
theorem law_tail {k : Nat} (B : Bl mg) (C : Cn K mg) (X : Xc P K mg) (T : Xt K X.CR X.CN) (G : Pg K mg) (NB : Kn K mg "row_bits" sRowBits ["row", "bits", "delay"]) (NN : Kn K mg "normal" sNormal ["row", "delay"]) (L : Lg K mg) (f : Addr) (cdv : Value) (A : Around) (outer : List Env) (s : Shared) (H0 : Hp) (Q : VK) (E : XK)
    (hr : Room (k + 8) (A.deeper (envOfC "law" (defScope sLaw) s.heap.objs.size f cdv))) :
    ∃ t, PSs (cxOf (CX P w) P w K mg base lawN "law" (defScope sLaw) f cdv A outer s H0 E) ((defBody sLaw).drop 8) t ∧ ∀ (c0 c1 c4 c5 c6 c8 c9 c10 c11 c12 c13 c14 c15 : Option V) (rw Wy : Addr) (lf l0 : List Clk) (df d0 : Nat) (ts : List V) (ws : List (List Clk × Nat)) (H1 : Hp), RowT H1 rw lf → H1 Wy = some (.lst ts) → Paired (WayT H1) ts ((l0, d0) :: ws) →
      (∀ v ∈ (l0, d0) :: ws, v.1.length ≤ 90 ∧ ∀ l' d', Led v.1 v.2 l' d' → Norm l' → l' = lf ∧ d' = df) → (∀ H', Same H1 H' → Q (.bl true) H') →
      t { nx := fun _ H' => Q V.non H', rt := Q } [c0, c1, some (.ref rw), some (.int (df : Nat)), c4, c5, c6, some (.ref Wy), c8, c9, c10, c11, c12, c13, c14, c15] H1 := by
  have GN : FnOk P w K mg base (CX P w) (k + 8) NN.f NN.fd ["row", "delay"] (spNormal X.CN) := ok_normal B C X G NN
  have GL : FnOk P w K mg base CX0 (k + 8) L.ls.f L.ls.fd ["row"] spLListed := ok_llisted L.ls.F B
  have GP : FnOk P w K mg base CX0 (k + 8) L.pt.f L.pt.fd ["told", "due"] spLPair := ok_lpair L.pt.F B L.it.F L.it.b L.it.g
  have GR : FnOk P w K mg base CX0 (k + 8) L.rf.f L.rf.fd ["row"] spRefus := ok_refus B C X T G NB NN L
  refine ⟨_, (pss_cons (ps_for (by passes_own) rfl (pi_seq (pv 7)) (pg_tup rfl (pgs_cons (pg_name (i := 14) scLaw.nd rfl (Or.inl rfl)) (pgs_cons (pg_name (i := 15) scLaw.nd rfl (Or.inl rfl)) pgs_nil)))
      (pss_one (ps_if (pt_not (pt_val (pe_call GP hr (by rfl) L.pt.g L.pt.F.kp L.pt.b .nil pass0 (pa_cons (pe_callK GN hr (by rfl) NN.g NN.F.kp NN.b (passes_call (takes_of rfl rfl rfl rfl) (fun _ _ _ _ h => h)) (pa_cons (pe_call GL hr (by rfl) L.ls.g L.ls.F.kp L.ls.b .nil pass0 (pa_cons (pv 14) pa_nil)) pa_nil) (pk_cons (pv 15) pk_nil)) (pa_cons (pe_tup (pa_cons (pv 2) (pa_cons (pv 3) pa_nil))) pa_nil))))) (pss_one (ps_ret pe_bl)) pss_nil)))
    (pss_cons (ps_if (PW.pt (pw_and (pt_cmpR op_eq (pe_ix (r := rIxT K) ix_tup (pe_ix (r := rIxL K) ix_list (pv 7) pe_int (fun _ _ => rfl)) pe_int (fun _ _ => rfl)) pe_int (nomark _))
      (pw_and1 (pt_cmpR (op_neD hr.units) (pe_call GN hr (by rfl) NN.g NN.F.kp NN.b0 (dvs := [.int 0]) (.cons ⟨_, rfl⟩ .nil) (passes_call (takes_of rfl rfl rfl rfl) (fun _ _ _ _ h => h)) (pa_cons (pe_ix (r := rIxT K) ix_tup (pe_ix (r := rIxL K) ix_list (pv 7) pe_int (fun _ _ => rfl)) pe_int (fun _ _ => rfl)) pa_nil)) (pe_tup (pa_cons (pv 2) (pa_cons (pv 3) pa_nil))) (nomark _))))) (pss_one (ps_ret pe_bl)) pss_nil)
    (pss_one (ps_ret (pe_call GR hr (by rfl) L.rf.g L.rf.F.kp L.rf.b .nil pass0 (pa_cons (pe_ix (r := rIxT K) ix_tup (pe_ix (r := rIxL K) ix_list (pv 7) pe_int (fun _ _ => rfl)) pe_int (fun _ _ => rfl)) pa_nil)))))), ?_⟩
  intro c0 c1 c4 c5 c6 c8 c9 c10 c11 c12 c13 c14 c15 rw Wy lf l0 df d0 ts ws H1 hrow eW pw hall q
  refine ⟨.ref Wy, rfl, Wy, ts, rfl, forSeq (D := { nx := _, rt := Q }) (fun i σ H' => (∃ c14 c15 : Option V, σ = [c0, c1, some (.ref rw), some (.int (df : Nat)), c4, c5, c6, some (.ref Wy), c8, c9, c10, c11, c12, c13, c14, c15]) ∧ Same H1 H') (.inl eW) ⟨⟨_, _, rfl⟩, Same.refl _⟩ (fun i σ H' o p e => p.2 _ _ e) ?_ ?_⟩
  · rintro i x σ H2 hx ⟨⟨c14, c15, rfl⟩, s2⟩
    obtain ⟨v, hv, T1, b, rfl, e1, hb⟩ := paired_get pw hx
    obtain ⟨hvl, huniq⟩ := hall v (List.mem_of_getElem? hv)
    have hb2 := hb.same s2
    refine ⟨T1, _, rfl, sqT (s2 _ _ e1), rfl, .ref b, _, rfl, .int (v.2 : Nat), _, rfl, rfl, ?_⟩
    refine ⟨.ref b, rfl, b, v.1, rfl, hb2, by omega, fun D3 H3 s3 nD3 hD3 => ⟨.int (v.2 : Nat), rfl, .ref D3, .int (v.2 : Nat), rfl, .inl ⟨v.1, v.2, hD3, rfl, fun T4 H4 b4 l' d' led nm s4 nT4 eT4 hb4 => ?_⟩⟩⟩
    obtain ⟨rfl, rfl⟩ := huniq l' d' led nm
    refine ⟨.ref rw, rfl, .int (d' : Nat), rfl, by show 2 ≤ sizeLine; decide, fun U nU => ?_⟩
    have sU := same_upd nU (o := .tup [.ref rw, .int (d' : Nat)])
    have s04 := s2.trans (s3.trans s4)
    refine ⟨T4, U, b4, rw, l', d', rfl, sU _ _ eT4, hb4.same sU, upd_same, (hrow.same s04).same sU, fun H5 s5 => ⟨_, rfl, iteFq rfl ?_⟩⟩
    exact ⟨⟨_, _, rfl⟩, s04.trans (sU.trans s5)⟩
  · rintro σ H2 ⟨⟨c14, c15, rfl⟩, s2⟩
    obtain ⟨x0, hx0, T1, b, rfl, e1, hb⟩ := paired_got pw (show ((l0, d0) :: ws)[0]? = some (l0, d0) from rfl)
    obtain ⟨hvl, huniq⟩ := hall (l0, d0) List.mem_cons_self
    have eW2 := s2 _ _ eW
    have e12 := s2 _ _ e1
    have last : ∀ H3, Same H1 H3 → tRet (tCall spRefus [] E0 (tCons (tOp (rIxT K) (tOp (rIxL K) (tVar 7) (tC (.int 0))) (tC (.int 0))) tNil)) { nx := fun _ H' => Q V.non H', rt := Q } [c0, c1, some (.ref rw), some (.int (df : Nat)), c4, c5, c6, some (.ref Wy), c8, c9, c10, c11, c12, c13, c14, c15] H3 := by
      intro H3 s3
      exact ⟨.ref Wy, rfl, Wy, _, 0, .ref T1, rfl, rfl, sqL (s3 _ _ eW), atI_nat (j := 0) hx0, T1, _, 0, .ref b, rfl, rfl, sqT (s3 _ _ e1), atI_nat (j := 0) rfl, b, l0, rfl, hb.same s3, hvl, fun H' s' => q H' (s3.trans s')⟩
    refine ⟨.ref Wy, rfl, Wy, _, 0, .ref T1, rfl, rfl, sqL eW2, atI_nat (j := 0) hx0, T1, _, 1, .int (d0 : Nat), rfl, rfl, sqT e12, atI_nat (j := 1) rfl, rfl, _, rfl, ?_⟩
    by_cases h0 : d0 = 0
    · refine iteTq (by rw [h0]; rfl) ?_
      refine ⟨.ref Wy, rfl, Wy, _, 0, .ref T1, rfl, rfl, sqL eW2, atI_nat (j := 0) hx0, T1, _, 0, .ref b, rfl, rfl, sqT e12, atI_nat (j := 0) rfl, .ref b, .int 0, rfl, .inl ⟨l0, 0, (hb.same s2).at (by show l0.length ≤ 100; have : l0.length ≤ 90 := hvl; omega), rfl, fun T4 H4 b4 l' d' led nm s4 nT4 eT4 hb4 => ?_⟩⟩
      obtain ⟨rfl, rfl⟩ := huniq l' d' (by rw [h0]; exact led) nm
      refine ⟨.ref rw, rfl, .int (d' : Nat), rfl, by show 2 ≤ sizeLine; decide, fun U nU => ?_⟩
      have sU := same_upd nU (o := .tup [.ref rw, .int (d' : Nat)])
      have s04 := s2.trans s4
      refine ⟨pairD l' d', pairD l' d', dp_pair (sU _ _ eT4) (hb4.same sU), dp_pair upd_same ((hrow.same s04).same sU), sh_pair _ _, sh_pair _ _, ?_⟩
      rw [SeqAt.eqv_refl _ (can_pair l' d')]
      exact ⟨_, rfl, iteFq rfl (last _ (s04.trans sU))⟩
    · exact iteFq (decide_eq_false fun e => h0 (by have := V.int.inj e; omega)) (last _ s2)
end
end K7

set_option Elab.async false
set_option linter.all false
set_option maxRecDepth 100000
set_option maxHeartbeats 4000000
namespace K7
open PySem PySem.Spec PyProof.Rows L2 GX NdefX K24
/-- what stands ahead of each turn of the law's loop -/
structure LoopJ (H : Hp) (nu bt du sm Wy : Addr) (xs : List Bool) (l0 : List Clk) (d0 i : Nat) (rw : Addr) (l : List Clk) (d : Nat) : Prop where
  nums : NumsAt H nu
  row : RowT H rw l
  len : l.length + i ≤ 8
  led : Led l0 d0 l d
  off : offS l + d = offS l0 + d0
  big : onS l0 + d0 ≤ 600
  bits : H bt = some (.tup (bsV xs))
  xl : xs.length ≤ 90
  due : H du = some (.tup (bsV (outL stL l0 d0 xs)))
  out : outL stL l d xs = outL stL l0 d0 xs
  sums : H sm = some (.lst [.int ((onS l0 + d0 : Nat)), .int ((offS l0 + d0 : Nat))])
  sn : sm ≠ nu
  wn : Wy ≠ nu
  ws : Wy ≠ sm
  way : ∃ ts vs, H Wy = some (.lst ts) ∧ Paired (WayT H) ts ((l0, d0) :: vs) ∧ ts.length ≤ i + 1 ∧ ∀ v ∈ (l0, d0) :: vs, v.1.length ≤ 8 ∧ Led v.1 v.2 l d
theorem LoopJ.same {H H' : Hp} {nu bt du sm Wy : Addr} {xs : List Bool} {l0 : List Clk} {d0 i : Nat} {rw : Addr} {l : List Clk} {d : Nat} (s : Same H H') (h : LoopJ H nu bt du sm Wy xs l0 d0 i rw l d) : LoopJ H' nu bt du sm Wy xs l0 d0 i rw l d := by
  obtain ⟨h1, h2, h3, h4, h5, h6, h7, h8, h9, h10, h11, h12, h13, h14, ts, vs, e, p, hl, ha⟩ := h
  exact ⟨h1.same s, h2.same s, h3, h4, h5, h6, s _ _ h7, h8, s _ _ h9, h10, s _ _ h11, h12, h13, h14, ts, vs, s _ _ e, paired_imp (fun _ _ h => h.same s) p, hl, ha⟩
theorem tup_b {nu : Addr} {H H' : Hp} {b : Addr} {vs : List V} (n : NumsAt H nu) (s : SameB nu H H') (e : H b = some (.tup vs)) : H' b = some (.tup vs) := by
  obtain ⟨ns, en, _⟩ := n
  exact s _ _ (fun z => by rw [z, en] at e; cases e) e
theorem row_b {nu b : Addr} {H H' : Hp} {l : List Clk} (n : NumsAt H nu) (s : SameB nu H H') (h : RowT H b l) : RowT H' b l := by
  obtain ⟨xs, e, p⟩ := h
  exact ⟨xs, tup_b n s e, clks_b n s p⟩
theorem way_b {nu : Addr} {H H' : Hp} {x : V} {v : List Clk × Nat} (n : NumsAt H nu) (s : SameB nu H H') (h : WayT H x v) : WayT H' x v := by
  obtain ⟨T, b, e, h1, h2⟩ := h
  exact ⟨T, b, e, tup_b n s h1, row_b n s h2⟩
theorem row_upd {D b : Addr} {H : Hp} {o : HO} {us : List V} {l : List Clk} (e : H D = some (.lst us)) (h : RowT H b l) : RowT (upd H D o) b l := by
  obtain ⟨xs, e1, p⟩ := h
  exact ⟨xs, by rw [upd_ne (fun z => by rw [z, e] at e1; cases e1)]; exact e1, clks_upd e p⟩
theorem way_upd {D : Addr} {H : Hp} {o : HO} {us : List V} {x : V} {v : List Clk × Nat} (e : H D = some (.lst us)) (h : WayT H x v) : WayT (upd H D o) x v := by
  obtain ⟨T, b, e1, h1, h2⟩ := h
  exact ⟨T, b, e1, by rw [upd_ne (fun z => by rw [z, e] at h1; cases h1)]; exact h1, row_upd e h2⟩
theorem LoopJ.sameB {H H' : Hp} {nu bt du sm Wy : Addr} {xs : List Bool} {l0 : List Clk} {d0 i : Nat} {rw : Addr} {l : List Clk} {d : Nat} (s : SameB nu H H') (n : NumsAt H' nu) (h : LoopJ H nu bt du sm Wy xs l0 d0 i rw l d) : LoopJ H' nu bt du sm Wy xs l0 d0 i rw l d := by
  obtain ⟨h1, h2, h3, h4, h5, h6, h7, h8, h9, h10, h11, h12, h13, h14, ts, vs, e, p, hl, ha⟩ := h
  exact ⟨n, row_b h1 s h2, h3, h4, h5, h6, tup_b h1 s h7, h8, tup_b h1 s h9, h10, s _ _ h12 h11, h12, h13, h14, ts, vs, s _ _ h13 e, paired_imp (fun _ _ h => way_b h1 s h) p, hl, ha⟩
def bitsD (xs : List Bool) : PyData := .tuple ((xs.map fun b => ((b2n b : Nat) : Int)).map PyData.int)
theorem bsV_int (xs : List Bool) : bsV xs = (xs.map fun b => ((b2n b : Nat) : Int)).map V.int := by
  unfold bsV
  rw [List.map_map]
  rfl
theorem dp_bits {K : PySem.W.Frag} {H : Hp} {T : Addr} {xs : List Bool} (e : H T = some (.tup (bsV xs))) : Dp K H (.ref T) (bitsD xs) := by
  rw [bsV_int] at e
  exact .tup (sqT e) (dpInts _)
theorem can_bits (xs : List Bool) : (bitsD xs).canLay0 = true := canInts _
theorem sh_bits (xs : List Bool) : SeqAt.shaped (bitsD xs) = true := by
  unfold SeqAt.shaped
  rw [can_bits, Bool.true_and, decide_eq_true_eq]
  show PyData.depthAll ((xs.map fun b => ((b2n b : Nat) : Int)).map PyData.int) + 1 ≤ 64
  rw [depInts]
  decide
theorem sh_two (x y : Int) : SeqAt.shaped (.list [.int x, .int y]) = true := rfl
section
variable {P : Program} {w : World} {K : PySem.W.Frag} {mg : Str → Option Value} {base : Heap}
theorem law_loop {k : Nat} (B : Bl mg) (C : Cn K mg) (X : Xc P K mg) (T : Xt K X.CR X.CN) (G : Pg K mg) (NB : Kn K mg "row_bits" sRowBits ["row", "bits", "delay"]) (NN : Kn K mg "normal" sNormal ["row", "delay"]) (L : Lg K mg) (f : Addr) (cdv : Value) (A : Around) (outer : List Env) (s : Shared) (H0 : Hp) (Q : VK) (E : XK)
    (hr : Room (k + 8) (A.deeper (envOfC "law" (defScope sLaw) s.heap.objs.size f cdv))) (q : ∀ H', Q (.bl true) H') :
    ∃ t, PSs (cxOf (CX P w) P w K mg base lawN "law" (defScope sLaw) f cdv A outer s H0 E) ((defBody sLaw).drop 7) t ∧ ∀ (c0 c8 c9 c10 c11 c12 c13 c14 c15 : Option V) (nu bt du sm Wy rw : Addr) (xs : List Bool) (l0 : List Clk) (d0 : Nat) (H1 : Hp), LoopJ H1 nu bt du sm Wy xs l0 d0 0 rw l0 d0 →
      t { nx := fun _ H' => Q V.non H', rt := Q } [c0, some (.ref nu), some (.ref rw), some (.int (d0 : Nat)), some (.ref bt), some (.ref du), some (.ref sm), some (.ref Wy), c8, c9, c10, c11, c12, c13, c14, c15] H1 := by
  have GRs : FnOk P w K mg base CX0 (k + 8) L.rs.f L.rs.fd ["row"] spLRules := ok_lrules L.rs.F B L.lr.F L.lr.b L.lr.g
  have GT : FnOk P w K mg base (CX P w) (k + 8) L.tn.f L.tn.fd ["row", "delay", "rules"] spLTurn := ok_lturn B C X T G L
  have GB : FnOk P w K mg base (CX P w) (k + 8) NB.f NB.fd ["row", "bits", "delay"] (spRowBits X.CN X.CR) := ok_rowBits B C X G NB
  have GL : FnOk P w K mg base CX0 (k + 8) L.ls.f L.ls.fd ["row"] spLListed := ok_llisted L.ls.F B
  have GBo : FnOk P w K mg base CX0 (k + 8) L.bo.f L.bo.fd ["row", "many"] spLBits := ok_lbits L.bo.F B L.it.F L.it.b L.it.g
  have GOt : FnOk P w K mg base CX0 (k + 8) L.ot.f L.ot.fd ["row", "delay", "bits"] spOut := ok_out L.ot.F B
  have GSm : FnOk P w K mg base CX0 (k + 8) L.sm.f L.sm.fd ["row", "delay"] spLSums := ok_lsums L.sm.F B
  have GD : FnOk P w K mg base CX0 (k + 8) L.dr.f L.dr.fd ["numbers", "many"] spDraw := ok_draw L.dr.F B
  have GBh : FnOk P w K mg base CX0 (k + 8) L.bh.f L.bh.fd ["row", "delay", "place", "rule"] spUsed := ok_lbehind L.bh.F B
  obtain ⟨tT, hT, rT⟩ := law_tail (w := w) (P := P) (base := base) B C X T G NB NN L f cdv A outer s H0 Q E hr
  refine ⟨_, (pss_cons (ps_for (by passes_own) rfl (pi_range1 (by rfl) B.range (pa_cons pe_int pa_nil)) (pg_name (i := 8) scLaw.nd rfl (.inl rfl)) (pss_cons (ps_set (i := 9) scLaw.nd rfl (.inl rfl) (pe_call GRs hr (by rfl) L.rs.g L.rs.F.kp L.rs.b .nil pass0 (pa_cons (pv 2) pa_nil)))
      (pss_cons (ps_if (pt_not (pt_val (pe_call GT hr (by rfl) L.tn.g L.tn.F.kp L.tn.b .nil (passes_call (takes_of rfl rfl rfl rfl) (fun _ _ _ _ h => h)) (pa_cons (pv 2) (pa_cons (pv 3) (pa_cons (pv 9) pa_nil)))))) (pss_one (ps_ret pe_bl)) pss_nil)
      (pss_cons (ps_set (i := 10) scLaw.nd rfl (.inl rfl) (pe_callK GB hr (by rfl) NB.g NB.F.kp NB.b (passes_call (takes_of rfl rfl rfl rfl) (fun _ _ _ _ h => h)) (pa_cons (pe_call GL hr (by rfl) L.ls.g L.ls.F.kp L.ls.b .nil pass0 (pa_cons (pv 2) pa_nil)) (pa_cons (pe_callTy call_list_of (by rfl) B.list (by decide +kernel) (pa_cons (pv 4) pa_nil)) pa_nil)) (pk_cons (pv 3) pk_nil)))
      (pss_cons (ps_if (PW.pt (pw_or (pt_not (pt_val (pe_call GBo hr (by rfl) L.bo.g L.bo.F.kp L.bo.b .nil pass0 (pa_cons (pv 10) (pa_cons (pe_callB call_len (by rfl) B.len PySem.boot_len (pa_cons (pv 4) pa_nil)) pa_nil))))) (pw_or (pt_cmpR (op_neD hr.units) (pv 10) (pv 5) (nomark _)) (pw_or1 (pt_cmpR (op_neD hr.units) (pe_call GOt hr (by rfl) L.ot.g L.ot.F.kp L.ot.b .nil pass0 (pa_cons (pv 2) (pa_cons (pv 3) (pa_cons (pv 4) pa_nil)))) (pv 5) (nomark _)))))) (pss_one (ps_ret pe_bl)) pss_nil)
      (pss_cons (ps_if (pt_cmpR (op_neD hr.units) (pe_call GSm hr (by rfl) L.sm.g L.sm.F.kp L.sm.b .nil pass0 (pa_cons (pv 2) (pa_cons (pv 3) pa_nil))) (pv 6) (nomark _)) (pss_one (ps_ret pe_bl)) pss_nil)
      (pss_cons (ps_if (pt_cmpR op_eq (pe_callB call_len (by rfl) B.len PySem.boot_len (pa_cons (pv 9) pa_nil)) pe_int (nomark _)) (pss_one ps_break) pss_nil)
      (pss_cons (ps_asg (pe_ix (r := rIxL K) ix_list (pv 9) (pe_call GD hr (by rfl) L.dr.g L.dr.F.kp L.dr.b .nil pass0 (pa_cons (pv 1) (pa_cons (pe_callB call_len (by rfl) B.len PySem.boot_len (pa_cons (pv 9) pa_nil)) pa_nil))) (fun _ _ => rfl)) (pg_tup rfl (pgs_cons (pg_name (i := 11) scLaw.nd rfl (Or.inl rfl)) (pgs_cons (pg_name (i := 12) scLaw.nd rfl (Or.inl rfl)) pgs_nil))))
      (pss_cons (ps_set (i := 13) scLaw.nd rfl (.inl rfl) (pe_callB call_len (by rfl) B.len PySem.boot_len (pa_cons (pv 2) pa_nil)))
      (pss_cons (ps_asg (pe_call GBh hr (by rfl) L.bh.g L.bh.F.kp L.bh.b .nil pass0 (pa_cons (pv 2) (pa_cons (pv 3) (pa_cons (pv 11) (pa_cons (pv 12) pa_nil))))) (pg_tup rfl (pgs_cons (pg_name (i := 2) scLaw.nd rfl (Or.inl rfl)) (pgs_cons (pg_name (i := 3) scLaw.nd rfl (Or.inl rfl)) pgs_nil))))
      (pss_cons (ps_if (pt_cmpR op_ge (pe_callB call_len (by rfl) B.len PySem.boot_len (pa_cons (pv 2) pa_nil)) (pv 13) (nomark _)) (pss_one (ps_ret pe_bl)) pss_nil)
      (pss_one (ps_expr (pe_bm PySem.F.plainAttrs_list PySem.F.slot_list_append PySem.F.type_list_append mt_append (pv 7) (pa_cons (pe_tup (pa_cons (pv 2) (pa_cons (pv 3) pa_nil))) pa_nil))))))))))))))) hT), ?_⟩
  intro c0 c8 c9 c10 c11 c12 c13 c14 c15 nu bt du sm Wy rw0 xs l0 d0 H1 J0
  refine ⟨12, rfl, by decide, by decide, ?_⟩
  refine for_range (D := { nx := _, rt := Q }) (fun i σ H' => ∃ rw l d, (∃ c8 c9 c10 c11 c12 c13 : Option V, σ = [c0, some (.ref nu), some (.ref rw), some (.int ((d : Nat) : Int)), some (.ref bt), some (.ref du), some (.ref sm), some (.ref Wy), c8, c9, c10, c11, c12, c13, c14, c15]) ∧ LoopJ H' nu bt du sm Wy xs l0 d0 i rw l d) ?_ ?_ ?_
  · exact ⟨rw0, l0, d0, ⟨_, _, _, _, _, _, rfl⟩, J0⟩
  · rintro i σ H2 hi ⟨rw, l, d, ⟨c8, c9, c10, c11, c12, c13, rfl⟩, J⟩
    have hl : l.length ≤ 8 := by have := J.len; omega
    have hd : d ≤ 600 := by have h1 := J.led.2; have h2 := J.big; omega
    have hxl := J.xl
    refine ⟨.ref rw, rfl, rw, l, rfl, J.row, by omega, fun R3 H3 ts3 s3 nR3 e3 p3 => ?_⟩
    have hRn := nums_ne J.nums nR3
    have J3 := J.same s3
    refine ⟨.ref rw, rfl, .int (d : Nat), rfl, .ref R3, rfl, rw, R3, d, l, ts3, rfl, J3.row, by omega, e3, p3, fun H4 s4 => ⟨_, rfl, iteFq rfl ?_⟩⟩
    have J4 := J3.same s4
    refine ⟨.ref rw, rfl, rw, l, rfl, J4.row, by omega, fun D5 H5 s5 nD5 hD5 => ?_⟩
    have J5 := J4.same s5
    refine ⟨.ref bt, rfl, bt, _, rfl, .inr (sqT J5.bits), fun Z nZ => ?_⟩
    have sZ := same_upd nZ (o := .lst (bsV xs))
    have J6 := J5.same sZ
    refine ⟨.int (d : Nat), rfl, .ref D5, .ref Z, .int (d : Nat), rfl, .inl ⟨l, xs, d, hD5.same sZ, ⟨Z, rfl, .inl upd_same, by omega⟩, rfl, fun T7 H7 s7 e7 => ?_⟩⟩
    have J7 := J6.same s7
    rw [out_same stP_fit stL_fit, J.out] at e7
    have hol : (outL stL l0 d0 xs).length = xs.length := outL_len _ _ _ _
    refine ⟨.ref T7, rfl, .ref bt, rfl, .ref bt, xs.length, rfl, lenV_sq (.inr J7.bits) (bsV_len xs), T7, outL stL l0 d0 xs, (by rw [hol]; rfl), e7, fun H8 s8 => ⟨_, rfl, iteFq rfl ?_⟩⟩
    have J8 := J7.same s8
    refine ⟨.ref T7, rfl, .ref du, rfl, bitsD (outL stL l0 d0 xs), bitsD (outL stL l0 d0 xs), dp_bits (s8 _ _ e7), dp_bits J8.due, sh_bits _, sh_bits _, ?_⟩
    rw [SeqAt.eqv_refl _ (can_bits _)]
    refine ⟨_, rfl, iteFq rfl ?_⟩
    refine ⟨.ref rw, rfl, .int (d : Nat), rfl, .ref bt, rfl, rw, bt, d, l, xs, rfl, J8.row, J8.bits, hxl, by omega, fun T9 H9 s9 nT9 e9 => ?_⟩
    rw [J.out] at e9
    have J9 := J8.same s9
    refine ⟨.ref du, rfl, bitsD (outL stL l0 d0 xs), bitsD (outL stL l0 d0 xs), dp_bits e9, dp_bits J9.due, sh_bits _, sh_bits _, ?_⟩
    rw [SeqAt.eqv_refl _ (can_bits _)]
    refine ⟨_, rfl, iteFq rfl ?_⟩
    refine ⟨.ref rw, rfl, .int (d : Nat), rfl, rw, d, l, rfl, J9.row, by omega, fun S10 H10 s10 nS e10 => ?_⟩
    have J10 := J9.same s10
    rw [J.led.2, J.off] at e10
    refine ⟨.ref sm, rfl, .list [.int ((onS l0 + d0 : Nat)), .int ((offS l0 + d0 : Nat))], .list [.int ((onS l0 + d0 : Nat)), .int ((offS l0 + d0 : Nat))], .lst (sqL e10) (.cons (.int _) (.cons (.int _) .nil)), .lst (sqL J10.sums) (.cons (.int _) (.cons (.int _) .nil)), sh_two _ _, sh_two _ _, ?_⟩
    rw [SeqAt.eqv_refl (.list [.int ((onS l0 + d0 : Nat)), .int ((offS l0 + d0 : Nat))]) rfl]
    refine ⟨_, rfl, iteFq rfl ?_⟩
    have s310 := s4.trans (s5.trans (sZ.trans (s7.trans (s8.trans (s9.trans s10)))))
    have e3b := s310 _ _ e3
    have p3b := p3.same s310
    have lts : ts3.length = (placesL l).length := by rw [p3.length, List.length_map]
    have lps := places_len l
    refine ⟨.ref R3, rfl, .ref R3, ts3.length, rfl, .inl ⟨_, sqL e3b, rfl⟩, rfl, _, rfl, ?_⟩
    by_cases hz : placesL l = []
    · refine iteTq (by rw [lts, hz]; rfl) ?_
      obtain ⟨tsw, vs, eW, pw, hw, ha⟩ := J10.way
      exact rT _ _ _ _ _ _ _ _ _ _ _ _ _ rw Wy l l0 d d0 tsw vs H10 J10.row eW pw (fun v hv => ⟨by have := (ha v hv).1; omega, fun l' d' h n => led_same h n (ha v hv).2 (norm_of (one_none hz))⟩) (fun H' _ => q H')
    · have hpos : 1 ≤ ts3.length := by
        rw [lts]
        cases hp : placesL l with
        | nil => exact absurd hp hz
        | cons _ _ => exact Nat.succ_le_succ (Nat.zero_le _)
      refine iteFq (decide_eq_false fun e => by have := V.int.inj e; omega) ?_
      refine ⟨.ref R3, rfl, .ref nu, rfl, .ref R3, rfl, .ref R3, ts3.length, rfl, .inl ⟨_, sqL e3b, rfl⟩, nu, ts3.length, rfl, hpos, J10.nums, fun H11 r hr s11 n11 => ?_⟩
      have J11 := J10.sameB s11 n11
      have e3c := s11 _ _ hRn e3b
      obtain ⟨x, hx⟩ : ∃ x, ts3[r]? = some x := ⟨_, List.getElem?_eq_getElem hr⟩
      obtain ⟨vs, b, hv, rfl, hb⟩ := tups_got p3b hx
      rw [List.getElem?_map] at hv
      obtain ⟨p, hp, rfl⟩ := Option.map_eq_some_iff.mp hv
      obtain ⟨ru, hru⟩ := mem_places.mp (List.mem_of_getElem? hp)
      have hb : H11 b = some (.tup [.int (p : Nat), .str (ruN ru)]) := by
        rw [tup_b J10.nums s11 hb]
        unfold rlV
        rw [hru]
        rfl
      refine ⟨R3, ts3, r, .ref b, rfl, rfl, sqL e3c, atI_nat hx, b, _, rfl, sqT hb, rfl, .int (p : Nat), _, rfl, .str (ruN ru), _, rfl, rfl, ?_⟩
      have hlen : ∀ H' b' l', RowT H' b' l' → LenV K (.ref b') H' l'.length := fun H' b' l' h => by
        obtain ⟨xs, e, p⟩ := h
        exact .inr ⟨_, sqT e, p.length.symm⟩
      refine ⟨.ref rw, rfl, .ref rw, l.length, rfl, hlen _ _ _ J11.row, ?_⟩
      refine ⟨.ref rw, rfl, .int (d : Nat), rfl, .int (p : Nat), rfl, .str (ruN ru), rfl, rw, d, p, ru, l, rfl, J11.row, by omega, hru, fun T12 H12 b12 s12 nT12 eT12 hb12 => ?_⟩
      have J12 := J11.same s12
      obtain ⟨u1, u2, u3, u4⟩ := useAt_all (d := d) hru
      have uo := out_rule (d := d) stL_fit hru xs
      have led2 := J.led.use (p := p) hru
      refine ⟨T12, _, rfl, sqT eT12, rfl, .ref b12, _, rfl, .int ((useAt ru l d p).2 : Nat), _, rfl, rfl, ?_⟩
      have one : Led l d (useAt ru l d p).1 (useAt ru l d p).2 := ⟨u1, u2⟩
      generalize useAt ru l d p = u at *
      obtain ⟨l', d'⟩ := u
      refine ⟨.ref b12, rfl, .ref b12, l'.length, rfl, hlen _ _ _ hb12, .int (l.length : Nat), rfl, _, _, rfl, rfl, _, rfl, iteFq (decide_eq_false (by show ¬ ((l.length : Nat) : Int) ≤ ((l'.length : Nat) : Int); have : l'.length < l.length := u4; omega)) ?_⟩
      obtain ⟨tsw, vs, eW, pw, hw, ha⟩ := J12.way
      refine ⟨.ref Wy, rfl, .inl ⟨rfl, _, sqL eW⟩, .ref b12, rfl, .int (d' : Nat), rfl, by show 2 ≤ sizeLine; decide, fun U nU => ?_⟩
      have sU := same_upd nU (o := .tup [.ref b12, .int (d' : Nat)])
      have eWU := sU _ _ eW
      have hi : i < 12 := hi
      refine ⟨Wy, tsw, _, rfl, rfl, eWU, by rw [sizeLine_eq]; omega, ?_⟩
      have JU := J12.same sU
      refine ⟨b12, l', d', ⟨_, _, _, _, _, _, rfl⟩, nums_upd JU.nums J.wn, row_upd eWU (hb12.same sU), by show l'.length + (i + 1) ≤ 8; have h1 : l'.length < l.length := u4; have h2 := J.len; omega, led2, u3.trans J.off, J.big, ?_, hxl, ?_, uo.trans J.out, by rw [upd_ne J.ws.symm]; exact JU.sums, J.sn, J.wn, J.ws, tsw ++ [.ref U], vs ++ [(l', d')], upd_same, ?_, by rw [List.length_append]; show tsw.length + 1 ≤ i + 1 + 1; omega, fun v hv => ?_⟩
      · have := JU.bits
        rw [upd_ne (fun z => by rw [z, eWU] at this; cases this)]
        exact this
      · have := JU.due
        rw [upd_ne (fun z => by rw [z, eWU] at this; cases this)]
        exact this
      · exact paired_snoc (paired_imp (fun _ _ h => way_upd eWU (h.same sU)) pw) (way_upd eWU ⟨U, b12, rfl, upd_same, hb12.same sU⟩)
      · rcases List.mem_append.mp (show v ∈ ((l0, d0) :: vs) ++ [(l', d')] from hv) with h | h
        · exact ⟨(ha v h).1, (ha v h).2.trans one⟩
        · rw [List.mem_singleton.mp h]
          exact ⟨by show l'.length ≤ 8; have : l'.length < l.length := u4; omega, ⟨rfl, rfl⟩⟩
  · rintro σ H2 ⟨rw, l, d, _, J⟩
    have := J.len
    exact absurd this (by show ¬ l.length + 12 ≤ 8; omega)
end
end K7

set_option Elab.async false
set_option linter.all false
set_option maxRecDepth 100000
set_option maxHeartbeats 4000000
namespace K7
open PySem PySem.Spec PyProof.Rows L2 GX NdefX K24
def spLaw (K : PySem.W.Frag) : Sp := fun vs H Q _ => ∃ (a : Addr) (ns : List Int), vs = [.ref a] ∧ SqL K H a (ns.map V.int) ∧ ns.length ≤ 63 ∧ ∀ H', Q (.bl true) H'
theorem onS_le : ∀ l : List Clk, (∀ c ∈ l, c.2 ≤ 60) → onS l ≤ 60 * l.length
  | [], _ => Nat.zero_le _
  | (k, n) :: l, h => by
    have h1 : n ≤ 60 := h (k, n) List.mem_cons_self
    have h2 := onS_le l fun c hc => h c (List.mem_cons_of_mem _ hc)
    show (if k then n else 0) + onS l ≤ 60 * (l.length + 1)
    split <;> omega
section
variable {P : Program} {w : World} {K : PySem.W.Frag} {mg : Str → Option Value} {base : Heap}
theorem ok_law {k : Nat} (B : Bl mg) (C : Cn K mg) (X : Xc P K mg) (T : Xt K X.CR X.CN) (G : Pg K mg) (NB : Kn K mg "row_bits" sRowBits ["row", "bits", "delay"]) (NN : Kn K mg "normal" sNormal ["row", "delay"]) (L : Lg K mg) {f : Addr} {fd : FuncData} (F : Fun K "law" "law" sLaw f fd) : FnOk P w K mg base (CX P w) (k + 9) f fd ["script"] (spLaw K) := by
  have HN : FnOk P w K mg base CX0 (k + 8) L.nu.f L.nu.fd ["script"] (spLNums K) := ok_lnums L.nu.F B
  have HC : FnOk P w K mg base CX0 (k + 8) L.cl.f L.cl.fd ["numbers"] spClocks := ok_clocks L.cl.F B L.dr.F L.dr.b L.dr.g
  have HD : FnOk P w K mg base CX0 (k + 8) L.dr.f L.dr.fd ["numbers", "many"] spDraw := ok_draw L.dr.F B
  have HR : FnOk P w K mg base CX0 (k + 8) L.rn.f L.rn.fd ["numbers"] spRuns := ok_runs L.rn.F B L.dr.F L.dr.b L.dr.g
  have HO : FnOk P w K mg base CX0 (k + 8) L.ot.f L.ot.fd ["row", "delay", "bits"] spOut := ok_out L.ot.F B
  have HS : FnOk P w K mg base CX0 (k + 8) L.sm.f L.sm.fd ["row", "delay"] spLSums := ok_lsums L.sm.F B
  refine F.okX scLaw (fun vs H Q E h => ?_) (fun cdv A outer s H vs Q E hr h => ?_)
  · obtain ⟨a, ns, rfl, _⟩ := h
    rfl
  · obtain ⟨a, ns, rfl, hq, hl, q⟩ := h
    obtain ⟨tT, hT, rT⟩ := law_loop (w := w) (P := P) (base := base) B C X T G NB NN L f cdv A outer s H Q E hr q
    refine ⟨_, (pss_cons (ps_set (i := 1) scLaw.nd rfl (.inl rfl) (pe_call HN hr (by rfl) L.nu.g L.nu.F.kp L.nu.b .nil pass0 (pa_cons (pv 0) pa_nil)))
      (pss_cons (ps_set (i := 2) scLaw.nd rfl (.inl rfl) (pe_call HC hr (by rfl) L.cl.g L.cl.F.kp L.cl.b .nil pass0 (pa_cons (pv 1) pa_nil)))
      (pss_cons (ps_set (i := 3) scLaw.nd rfl (.inl rfl) (pe_ix (r := rIxL K) ix_list (pe_lst (pa_cons pe_int (pa_cons pe_int (pa_cons pe_int (pa_cons (pe_call HD hr (by rfl) L.dr.g L.dr.F.kp L.dr.b .nil pass0 (pa_cons (pv 1) (pa_cons pe_int pa_nil))) pa_nil))))) (pe_call HD hr (by rfl) L.dr.g L.dr.F.kp L.dr.b .nil pass0 (pa_cons (pv 1) (pa_cons pe_int pa_nil))) (fun _ _ => rfl)))
      (pss_cons (ps_set (i := 4) scLaw.nd rfl (.inl rfl) (pe_call HR hr (by rfl) L.rn.g L.rn.F.kp L.rn.b .nil pass0 (pa_cons (pv 1) pa_nil)))
      (pss_cons (ps_set (i := 5) scLaw.nd rfl (.inl rfl) (pe_call HO hr (by rfl) L.ot.g L.ot.F.kp L.ot.b .nil pass0 (pa_cons (pv 2) (pa_cons (pv 3) (pa_cons (pv 4) pa_nil)))))
      (pss_cons (ps_set (i := 6) scLaw.nd rfl (.inl rfl) (pe_call HS hr (by rfl) L.sm.g L.sm.F.kp L.sm.b .nil pass0 (pa_cons (pv 2) (pa_cons (pv 3) pa_nil))))
      (pss_cons (ps_set (i := 7) scLaw.nd rfl (.inl rfl) (pe_lst (pa_cons (pe_tup (pa_cons (pv 2) (pa_cons (pv 3) pa_nil))) pa_nil)))
      hT))))))), ?_⟩
    refine ⟨.ref a, rfl, a, ns, rfl, hq, hl, fun N H1 nl s1 nN eN hnl => ?_⟩
    have n1 : NumsAt H1 N := ⟨nl, eN, hnl⟩
    refine ⟨.ref N, rfl, N, rfl, n1, fun rw H2 l s2 n2 nR hrow hl8 hc => ?_⟩
    refine ⟨.ref N, rfl, N, 21, rfl, by decide, n2, fun H3 r hr21 s3 n3 => ⟨by show 4 ≤ sizeLine; decide, fun M nM => ⟨.ref N, rfl, N, 4, rfl, by decide, n3.same (same_upd nM), fun H4 r4 hr4 s4 n4 => ?_⟩⟩⟩
    refine pick (ms := [0, 0, 3, r]) (s4 _ _ (nums_ne n3 nM) upd_same) hr4 fun d hd => ?_
    have hd20 : d ≤ 20 := by
      simp only [List.mem_cons, List.not_mem_nil, or_false] at hd
      omega
    have row4 := row_b (n3.same (same_upd nM)) s4 (RowT.same (same_upd nM) (row_b n2 s3 hrow))
    refine ⟨.ref N, rfl, N, rfl, n4, fun bt H5 xs s5 n5 nB eB hx => ?_⟩
    have row5 := row_b n4 s5 row4
    refine ⟨.ref rw, rfl, .int (d : Nat), rfl, .ref bt, rfl, rw, bt, d, l, xs, rfl, row5, eB, hx, by omega, fun du H6 s6 nDu eDu => ?_⟩
    have n6 := n5.same s6
    refine ⟨.ref rw, rfl, .int (d : Nat), rfl, rw, d, l, rfl, row5.same s6, by omega, fun sm H7 s7 nS eS => ?_⟩
    have hsn : sm ≠ N := nums_ne n6 nS
    have n7 := n6.same s7
    refine ⟨.ref rw, rfl, .int (d : Nat), rfl, by show 2 ≤ sizeLine; decide, fun U nU => ⟨by show 1 ≤ sizeLine; decide, fun Wy nW => ?_⟩⟩
    have sU := same_upd nU (o := .tup [.ref rw, .int (d : Nat)])
    have sW := same_upd nW (o := .lst [.ref U])
    have s79 := sU.trans sW
    have s69 := s7.trans s79
    have s59 := s6.trans s69
    have bigl := onS_le l hc
    have row9 := row5.same s59
    exact rT _ _ _ _ _ _ _ _ _ N bt du sm Wy rw xs l d _ ⟨n7.same s79, row9, by omega, ⟨rfl, rfl⟩, rfl, by omega, s59 _ _ eB, hx, s69 _ _ eDu, rfl, s79 _ _ eS, hsn, nums_ne (n7.same sU) nW, (ne_of_none (sU _ _ eS) nW).symm, [.ref U], [], upd_same, .cons ⟨U, rw, rfl, sW _ _ upd_same, row9⟩ .nil, Nat.le_refl _, fun v hv => by rw [List.mem_singleton.mp hv]; exact ⟨hl8, ⟨rfl, rfl⟩⟩⟩
end
end K7

set_option Elab.async false
set_option linter.all false
set_option maxRecDepth 100000
set_option maxHeartbeats 4000000
namespace K7
open PySem PySem.Spec PyProof.Rows L2 GX NdefX K24
/-! ### what the top has written -/
theorem exm_of {K : PySem.W.Frag} {S C : Addr} {b : Bool} (h1 : PySem.W.subIn K (.ref C) (.type "BaseException") = some true) (h2 : PySem.W.isClsIn K C = true) (h3 : PySem.W.typeIn K (.ref C) = some (.type "type")) (h4 : PySem.W.subIn K (.ref S) (.ref C) = some b) :
    PySem.W.exmOne K (.ref S) (.ref C) = some b := by
  have e1 : (PySem.W.subIn K (.ref C) (.type "BaseException") == some true) = true := by rw [h1] <;> rfl
  have e2 : ((PySem.W.clsIn K C).isSome && PySem.W.typeIn K (.ref C) == some (.type "type")) = true := by
    have h2' : (PySem.W.clsIn K C).isSome = true := h2
    rw [h2', h3] <;> rfl
  show (if (PySem.W.subIn K (.ref C) (.type "BaseException") == some true) = true then (if ((PySem.W.clsIn K C).isSome && PySem.W.typeIn K (.ref C) == some (.type "type")) = true then PySem.W.subIn K (.ref S) (.ref C) else none) else none) = some b
  rw [if_pos e1, if_pos e2]
  exact h4
theorem all_mk {P : Program} {w : World} {K : PySem.W.Frag} {h : Heap} {mg : Str → Option Value} {fa : Addr} (X : K.In h) (G : h.Ns mainGlobals mg) (hfa : mg "law" = some (.ref fa))
    {fpli fpwh fpbi fpbs fpdl fpir fptr fpcd fpcr fpwo fprb0 fpra fpru fpus fpon0 fpno0 fpon fprsa fpue fynu fydr fyit fybo fycl fyrn fyot fylr fyrs fybh fysm fypt fyfi fyls fytn fywd fyrf fkkb fkkn flaw aW CE CR CN iR iN ccR ccN cdaR cdaN NR NN : Addr}
    {ocpli kVpli dcpli pmpli cdpli ctpli ocpwh kVpwh dcpwh pmpwh cdpwh ctpwh ocpbi kVpbi dcpbi pmpbi cdpbi ctpbi ocpbs kVpbs dcpbs pmpbs cdpbs ctpbs ocpdl kVpdl dcpdl pmpdl cdpdl ctpdl ocpir kVpir dcpir pmpir cdpir ctpir ocptr kVptr dcptr pmptr cdptr ctptr ocpcd kVpcd dcpcd pmpcd cdpcd ctpcd ocpcr kVpcr dcpcr pmpcr cdpcr ctpcr ocpwo kVpwo dcpwo pmpwo cdpwo ctpwo ocprb0 kVprb0 dcprb0 pmprb0 cdprb0 ctprb0 ocpra kVpra dcpra pmpra cdpra ctpra ocpru kVpru dcpru pmpru cdpru ctpru ocpus kVpus dcpus pmpus cdpus ctpus ocpon0 kVpon0 dcpon0 pmpon0 cdpon0 ctpon0 ocpno0 kVpno0 dcpno0 pmpno0 cdpno0 ctpno0 ocpon kVpon dcpon pmpon cdpon ctpon ocprsa kVprsa dcprsa pmprsa cdprsa ctprsa ocpue kVpue dcpue pmpue cdpue ctpue ocynu kVynu dcynu pmynu cdynu ctynu ocydr kVydr dcydr pmydr cdydr ctydr ocyit kVyit dcyit pmyit cdyit ctyit ocybo kVybo dcybo pmybo cdybo ctybo ocycl kVycl dcycl pmycl cdycl ctycl ocyrn kVyrn dcyrn pmyrn cdyrn ctyrn ocyot kVyot dcyot pmyot cdyot ctyot ocylr kVylr dcylr pmylr cdylr ctylr ocyrs kVyrs dcyrs pmyrs cdyrs ctyrs ocybh kVybh dcybh pmybh cdybh ctybh ocysm kVysm dcysm pmysm cdysm ctysm ocypt kVypt dcypt pmypt cdypt ctypt ocyfi kVyfi dcyfi pmyfi cdyfi ctyfi ocyls kVyls dcyls pmyls cdyls ctyls ocytn kVytn dcytn pmytn cdytn ctytn ocywd kVywd dcywd pmywd cdywd ctywd ocyrf kVyrf dcyrf pmyrf cdyrf ctyrf ockkb kVkkb dckkb pmkkb cdkkb ctkkb ockkn kVkkn dckkn pmkkn cdkkn ctkkn oclaw kVlaw dclaw pmlaw cdlaw ctlaw oiR kViR dciR pmiR ctiR cclR clR oiN kViN dciN pmiN ctiN cclN clN : Value}
    {odpli anpli odpwh anpwh odpbi anpbi odpbs anpbs odpdl anpdl odpir anpir odptr anptr odpcd anpcd odpcr anpcr odpwo anpwo odprb0 anprb0 odpra anpra odpru anpru odpus anpus odpon0 anpon0 odpno0 anpno0 odpon anpon odprsa anprsa odpue anpue odynu anynu odydr anydr odyit anyit odybo anybo odycl anycl odyrn anyrn odyot anyot odylr anylr odyrs anyrs odybh anybh odysm anysm odypt anypt odyfi anyfi odyls anyls odytn anytn odywd anywd odyrf anyrf odkkb ankkb odkkn ankkn odlaw anlaw odW diR aniR cddR cldR ddR diN aniN cddN cldN ddN : Option Addr}
    {slpli slpwh slpbi slpbs slpdl slpir slptr slpcd slpcr slpwo slprb0 slpra slpru slpus slpon0 slpno0 slpon slprsa slpue slynu slydr slyit slybo slycl slyrn slyot slylr slyrs slybh slysm slypt slyfi slyls slytn slywd slyrf slkkb slkkn sllaw slW sliR ccsR cslR sliN ccsN cslN : Array (Option Value)}
    {vsR vsN : Array Value} {tkb tkn w1 w2 tfR tfN : Tok} {nW : Nat}
    {nmR qR fileR nmN qN fileN : Str} {bsR subR bsN subN : List Value} {snR snN : List Str} {abR abN : Bool} {colR colN : Option Bool} {m0R m1R m2R m3R m5R m0N m1N m2N m3N m5N : Option Value}
    (apli : PySem.W.nsIn K mainGlobals "is_listed" = some (some (.ref fpli)))
    (lpli : K.lookup fpli = some ⟨ocpli, odpli, .func (PySem.W.fnOf "is_listed" "is_listed" (defArgs sListed) (defBody sListed) (defScope sListed) .none kVpli dcpli pmpli anpli cdpli ctpli), slpli⟩)
    (cpli : PySem.W.codeIn K cdpli "is_listed" = true)
    (kpli : PySem.W.keepIn K (.ref fpli) = true)
    (apwh : PySem.W.nsIn K mainGlobals "is_whole" = some (some (.ref fpwh)))
    (lpwh : K.lookup fpwh = some ⟨ocpwh, odpwh, .func (PySem.W.fnOf "is_whole" "is_whole" (defArgs sWhole) (defBody sWhole) (defScope sWhole) .none kVpwh dcpwh pmpwh anpwh cdpwh ctpwh), slpwh⟩)
    (cpwh : PySem.W.codeIn K cdpwh "is_whole" = true)
    (kpwh : PySem.W.keepIn K (.ref fpwh) = true)
    (apbi : PySem.W.nsIn K mainGlobals "is_bit" = some (some (.ref fpbi)))
    (lpbi : K.lookup fpbi = some ⟨ocpbi, odpbi, .func (PySem.W.fnOf "is_bit" "is_bit" (defArgs sBit) (defBody sBit) (defScope sBit) .none kVpbi dcpbi pmpbi anpbi cdpbi ctpbi), slpbi⟩)
    (cpbi : PySem.W.codeIn K cdpbi "is_bit" = true)
    (kpbi : PySem.W.keepIn K (.ref fpbi) = true)
    (apbs : PySem.W.nsIn K mainGlobals "check_bits" = some (some (.ref fpbs)))
    (lpbs : K.lookup fpbs = some ⟨ocpbs, odpbs, .func (PySem.W.fnOf "check_bits" "check_bits" (defArgs sBits) (defBody sBits) (defScope sBits) .none kVpbs dcpbs pmpbs anpbs cdpbs ctpbs), slpbs⟩)
    (cpbs : PySem.W.codeIn K cdpbs "check_bits" = true)
    (kpbs : PySem.W.keepIn K (.ref fpbs) = true)
    (apdl : PySem.W.nsIn K mainGlobals "delayed" = some (some (.ref fpdl)))
    (lpdl : K.lookup fpdl = some ⟨ocpdl, odpdl, .func (PySem.W.fnOf "delayed" "delayed" (defArgs sDelayed) (defBody sDelayed) (defScope sDelayed) .none kVpdl dcpdl pmpdl anpdl cdpdl ctpdl), slpdl⟩)
    (cpdl : PySem.W.codeIn K cdpdl "delayed" = true)
    (kpdl : PySem.W.keepIn K (.ref fpdl) = true)
    (apir : PySem.W.nsIn K mainGlobals "_is_timer_row" = some (some (.ref fpir)))
    (lpir : K.lookup fpir = some ⟨ocpir, odpir, .func (PySem.W.fnOf "_is_timer_row" "_is_timer_row" (defArgs sIsRow) (defBody sIsRow) (defScope sIsRow) .none kVpir dcpir pmpir anpir cdpir ctpir), slpir⟩)
    (cpir : PySem.W.codeIn K cdpir "_is_timer_row" = true)
    (kpir : PySem.W.keepIn K (.ref fpir) = true)
    (aptr : PySem.W.nsIn K mainGlobals "_told_row" = some (some (.ref fptr)))
    (lptr : K.lookup fptr = some ⟨ocptr, odptr, .func (PySem.W.fnOf "_told_row" "_told_row" (defArgs sTold) (defBody sTold) (defScope sTold) .none kVptr dcptr pmptr anptr cdptr ctptr), slptr⟩)
    (cptr : PySem.W.codeIn K cdptr "_told_row" = true)
    (kptr : PySem.W.keepIn K (.ref fptr) = true)
    (apcd : PySem.W.nsIn K mainGlobals "_check_delay" = some (some (.ref fpcd)))
    (lpcd : K.lookup fpcd = some ⟨ocpcd, odpcd, .func (PySem.W.fnOf "_check_delay" "_check_delay" (defArgs sCkDelay) (defBody sCkDelay) (defScope sCkDelay) .none kVpcd dcpcd pmpcd anpcd cdpcd ctpcd), slpcd⟩)
    (cpcd : PySem.W.codeIn K cdpcd "_check_delay" = true)
    (kpcd : PySem.W.keepIn K (.ref fpcd) = true)
    (apcr : PySem.W.nsIn K mainGlobals "check_timer_row" = some (some (.ref fpcr)))
    (lpcr : K.lookup fpcr = some ⟨ocpcr, odpcr, .func (PySem.W.fnOf "check_timer_row" "check_timer_row" (defArgs sCkRow) (defBody sCkRow) (defScope sCkRow) .none kVpcr dcpcr pmpcr anpcr cdpcr ctpcr), slpcr⟩)
    (cpcr : PySem.W.codeIn K cdpcr "check_timer_row" = true)
    (kpcr : PySem.W.keepIn K (.ref fpcr) = true)
    (apwo : PySem.W.nsIn K mainGlobals "_worked" = some (some (.ref fpwo)))
    (lpwo : K.lookup fpwo = some ⟨ocpwo, odpwo, .func (PySem.W.fnOf "_worked" "_worked" (defArgs sWorked) (defBody sWorked) (defScope sWorked) .none kVpwo dcpwo pmpwo anpwo cdpwo ctpwo), slpwo⟩)
    (cpwo : PySem.W.codeIn K cdpwo "_worked" = true)
    (kpwo : PySem.W.keepIn K (.ref fpwo) = true)
    (aprb0 : PySem.W.nsIn K mainGlobals "_row_bits" = some (some (.ref fprb0)))
    (lprb0 : K.lookup fprb0 = some ⟨ocprb0, odprb0, .func (PySem.W.fnOf "_row_bits" "_row_bits" (defArgs sRowBits0) (defBody sRowBits0) (defScope sRowBits0) .none kVprb0 dcprb0 pmprb0 anprb0 cdprb0 ctprb0), slprb0⟩)
    (cprb0 : PySem.W.codeIn K cdprb0 "_row_bits" = true)
    (kprb0 : PySem.W.keepIn K (.ref fprb0) = true)
    (apra : PySem.W.nsIn K mainGlobals "_rule_at" = some (some (.ref fpra)))
    (lpra : K.lookup fpra = some ⟨ocpra, odpra, .func (PySem.W.fnOf "_rule_at" "_rule_at" (defArgs sRuleAt) (defBody sRuleAt) (defScope sRuleAt) .none kVpra dcpra pmpra anpra cdpra ctpra), slpra⟩)
    (cpra : PySem.W.codeIn K cdpra "_rule_at" = true)
    (kpra : PySem.W.keepIn K (.ref fpra) = true)
    (apru : PySem.W.nsIn K mainGlobals "_rules" = some (some (.ref fpru)))
    (lpru : K.lookup fpru = some ⟨ocpru, odpru, .func (PySem.W.fnOf "_rules" "_rules" (defArgs sRules0) (defBody sRules0) (defScope sRules0) .none kVpru dcpru pmpru anpru cdpru ctpru), slpru⟩)
    (cpru : PySem.W.codeIn K cdpru "_rules" = true)
    (kpru : PySem.W.keepIn K (.ref fpru) = true)
    (apus : PySem.W.nsIn K mainGlobals "_used" = some (some (.ref fpus)))
    (lpus : K.lookup fpus = some ⟨ocpus, odpus, .func (PySem.W.fnOf "_used" "_used" (defArgs sUsed) (defBody sUsed) (defScope sUsed) .none kVpus dcpus pmpus anpus cdpus ctpus), slpus⟩)
    (cpus : PySem.W.codeIn K cdpus "_used" = true)
    (kpus : PySem.W.keepIn K (.ref fpus) = true)
    (apon0 : PySem.W.nsIn K mainGlobals "_one_rule" = some (some (.ref fpon0)))
    (lpon0 : K.lookup fpon0 = some ⟨ocpon0, odpon0, .func (PySem.W.fnOf "_one_rule" "_one_rule" (defArgs sOne0) (defBody sOne0) (defScope sOne0) .none kVpon0 dcpon0 pmpon0 anpon0 cdpon0 ctpon0), slpon0⟩)
    (cpon0 : PySem.W.codeIn K cdpon0 "_one_rule" = true)
    (kpon0 : PySem.W.keepIn K (.ref fpon0) = true)
    (apno0 : PySem.W.nsIn K mainGlobals "_normal" = some (some (.ref fpno0)))
    (lpno0 : K.lookup fpno0 = some ⟨ocpno0, odpno0, .func (PySem.W.fnOf "_normal" "_normal" (defArgs sNormal0) (defBody sNormal0) (defScope sNormal0) .none kVpno0 dcpno0 pmpno0 anpno0 cdpno0 ctpno0), slpno0⟩)
    (cpno0 : PySem.W.codeIn K cdpno0 "_normal" = true)
    (kpno0 : PySem.W.keepIn K (.ref fpno0) = true)
    (apon : PySem.W.nsIn K mainGlobals "one_rule" = some (some (.ref fpon)))
    (lpon : K.lookup fpon = some ⟨ocpon, odpon, .func (PySem.W.fnOf "one_rule" "one_rule" (defArgs sOne) (defBody sOne) (defScope sOne) .none kVpon dcpon pmpon anpon cdpon ctpon), slpon⟩)
    (cpon : PySem.W.codeIn K cdpon "one_rule" = true)
    (kpon : PySem.W.keepIn K (.ref fpon) = true)
    (aprsa : PySem.W.nsIn K mainGlobals "rules_at" = some (some (.ref fprsa)))
    (lprsa : K.lookup fprsa = some ⟨ocprsa, odprsa, .func (PySem.W.fnOf "rules_at" "rules_at" (defArgs sRulesAt) (defBody sRulesAt) (defScope sRulesAt) .none kVprsa dcprsa pmprsa anprsa cdprsa ctprsa), slprsa⟩)
    (cprsa : PySem.W.codeIn K cdprsa "rules_at" = true)
    (kprsa : PySem.W.keepIn K (.ref fprsa) = true)
    (apue : PySem.W.nsIn K mainGlobals "use" = some (some (.ref fpue)))
    (lpue : K.lookup fpue = some ⟨ocpue, odpue, .func (PySem.W.fnOf "use" "use" (defArgs sUse) (defBody sUse) (defScope sUse) .none kVpue dcpue pmpue anpue cdpue ctpue), slpue⟩)
    (cpue : PySem.W.codeIn K cdpue "use" = true)
    (kpue : PySem.W.keepIn K (.ref fpue) = true)
    (aynu : PySem.W.nsIn K mainGlobals "_law_numbers" = some (some (.ref fynu)))
    (lynu : K.lookup fynu = some ⟨ocynu, odynu, .func (PySem.W.fnOf "_law_numbers" "_law_numbers" (defArgs sLNums) (defBody sLNums) (defScope sLNums) .none kVynu dcynu pmynu anynu cdynu ctynu), slynu⟩)
    (cynu : PySem.W.codeIn K cdynu "_law_numbers" = true)
    (kynu : PySem.W.keepIn K (.ref fynu) = true)
    (aydr : PySem.W.nsIn K mainGlobals "_law_draw" = some (some (.ref fydr)))
    (lydr : K.lookup fydr = some ⟨ocydr, odydr, .func (PySem.W.fnOf "_law_draw" "_law_draw" (defArgs sLDraw) (defBody sLDraw) (defScope sLDraw) .none kVydr dcydr pmydr anydr cdydr ctydr), slydr⟩)
    (cydr : PySem.W.codeIn K cdydr "_law_draw" = true)
    (kydr : PySem.W.keepIn K (.ref fydr) = true)
    (ayit : PySem.W.nsIn K mainGlobals "_law_int" = some (some (.ref fyit)))
    (lyit : K.lookup fyit = some ⟨ocyit, odyit, .func (PySem.W.fnOf "_law_int" "_law_int" (defArgs sLInt) (defBody sLInt) (defScope sLInt) .none kVyit dcyit pmyit anyit cdyit ctyit), slyit⟩)
    (cyit : PySem.W.codeIn K cdyit "_law_int" = true)
    (kyit : PySem.W.keepIn K (.ref fyit) = true)
    (aybo : PySem.W.nsIn K mainGlobals "_law_bits_ok" = some (some (.ref fybo)))
    (lybo : K.lookup fybo = some ⟨ocybo, odybo, .func (PySem.W.fnOf "_law_bits_ok" "_law_bits_ok" (defArgs sLBitsOk) (defBody sLBitsOk) (defScope sLBitsOk) .none kVybo dcybo pmybo anybo cdybo ctybo), slybo⟩)
    (cybo : PySem.W.codeIn K cdybo "_law_bits_ok" = true)
    (kybo : PySem.W.keepIn K (.ref fybo) = true)
    (aycl : PySem.W.nsIn K mainGlobals "_law_clocks" = some (some (.ref fycl)))
    (lycl : K.lookup fycl = some ⟨ocycl, odycl, .func (PySem.W.fnOf "_law_clocks" "_law_clocks" (defArgs sLClocks) (defBody sLClocks) (defScope sLClocks) .none kVycl dcycl pmycl anycl cdycl ctycl), slycl⟩)
    (cycl : PySem.W.codeIn K cdycl "_law_clocks" = true)
    (kycl : PySem.W.keepIn K (.ref fycl) = true)
    (ayrn : PySem.W.nsIn K mainGlobals "_law_runs" = some (some (.ref fyrn)))
    (lyrn : K.lookup fyrn = some ⟨ocyrn, odyrn, .func (PySem.W.fnOf "_law_runs" "_law_runs" (defArgs sLRuns) (defBody sLRuns) (defScope sLRuns) .none kVyrn dcyrn pmyrn anyrn cdyrn ctyrn), slyrn⟩)
    (cyrn : PySem.W.codeIn K cdyrn "_law_runs" = true)
    (kyrn : PySem.W.keepIn K (.ref fyrn) = true)
    (ayot : PySem.W.nsIn K mainGlobals "_law_out" = some (some (.ref fyot)))
    (lyot : K.lookup fyot = some ⟨ocyot, odyot, .func (PySem.W.fnOf "_law_out" "_law_out" (defArgs sLOut) (defBody sLOut) (defScope sLOut) .none kVyot dcyot pmyot anyot cdyot ctyot), slyot⟩)
    (cyot : PySem.W.codeIn K cdyot "_law_out" = true)
    (kyot : PySem.W.keepIn K (.ref fyot) = true)
    (aylr : PySem.W.nsIn K mainGlobals "_law_rule" = some (some (.ref fylr)))
    (lylr : K.lookup fylr = some ⟨ocylr, odylr, .func (PySem.W.fnOf "_law_rule" "_law_rule" (defArgs sLRule) (defBody sLRule) (defScope sLRule) .none kVylr dcylr pmylr anylr cdylr ctylr), slylr⟩)
    (cylr : PySem.W.codeIn K cdylr "_law_rule" = true)
    (kylr : PySem.W.keepIn K (.ref fylr) = true)
    (ayrs : PySem.W.nsIn K mainGlobals "_law_rules" = some (some (.ref fyrs)))
    (lyrs : K.lookup fyrs = some ⟨ocyrs, odyrs, .func (PySem.W.fnOf "_law_rules" "_law_rules" (defArgs sLRules) (defBody sLRules) (defScope sLRules) .none kVyrs dcyrs pmyrs anyrs cdyrs ctyrs), slyrs⟩)
    (cyrs : PySem.W.codeIn K cdyrs "_law_rules" = true)
    (kyrs : PySem.W.keepIn K (.ref fyrs) = true)
    (aybh : PySem.W.nsIn K mainGlobals "_law_behind" = some (some (.ref fybh)))
    (lybh : K.lookup fybh = some ⟨ocybh, odybh, .func (PySem.W.fnOf "_law_behind" "_law_behind" (defArgs sLBehind) (defBody sLBehind) (defScope sLBehind) .none kVybh dcybh pmybh anybh cdybh ctybh), slybh⟩)
    (cybh : PySem.W.codeIn K cdybh "_law_behind" = true)
    (kybh : PySem.W.keepIn K (.ref fybh) = true)
    (aysm : PySem.W.nsIn K mainGlobals "_law_sums" = some (some (.ref fysm)))
    (lysm : K.lookup fysm = some ⟨ocysm, odysm, .func (PySem.W.fnOf "_law_sums" "_law_sums" (defArgs sLSums) (defBody sLSums) (defScope sLSums) .none kVysm dcysm pmysm anysm cdysm ctysm), slysm⟩)
    (cysm : PySem.W.codeIn K cdysm "_law_sums" = true)
    (kysm : PySem.W.keepIn K (.ref fysm) = true)
    (aypt : PySem.W.nsIn K mainGlobals "_law_pair_told" = some (some (.ref fypt)))
    (lypt : K.lookup fypt = some ⟨ocypt, odypt, .func (PySem.W.fnOf "_law_pair_told" "_law_pair_told" (defArgs sLPair) (defBody sLPair) (defScope sLPair) .none kVypt dcypt pmypt anypt cdypt ctypt), slypt⟩)
    (cypt : PySem.W.codeIn K cdypt "_law_pair_told" = true)
    (kypt : PySem.W.keepIn K (.ref fypt) = true)
    (ayfi : PySem.W.nsIn K mainGlobals "_law_first" = some (some (.ref fyfi)))
    (lyfi : K.lookup fyfi = some ⟨ocyfi, odyfi, .func (PySem.W.fnOf "_law_first" "_law_first" (defArgs sLFirst) (defBody sLFirst) (defScope sLFirst) .none kVyfi dcyfi pmyfi anyfi cdyfi ctyfi), slyfi⟩)
    (cyfi : PySem.W.codeIn K cdyfi "_law_first" = true)
    (kyfi : PySem.W.keepIn K (.ref fyfi) = true)
    (ayls : PySem.W.nsIn K mainGlobals "_law_listed" = some (some (.ref fyls)))
    (lyls : K.lookup fyls = some ⟨ocyls, odyls, .func (PySem.W.fnOf "_law_listed" "_law_listed" (defArgs sLListed) (defBody sLListed) (defScope sLListed) .none kVyls dcyls pmyls anyls cdyls ctyls), slyls⟩)
    (cyls : PySem.W.codeIn K cdyls "_law_listed" = true)
    (kyls : PySem.W.keepIn K (.ref fyls) = true)
    (aytn : PySem.W.nsIn K mainGlobals "_law_turn" = some (some (.ref fytn)))
    (lytn : K.lookup fytn = some ⟨ocytn, odytn, .func (PySem.W.fnOf "_law_turn" "_law_turn" (defArgs sLTurn) (defBody sLTurn) (defScope sLTurn) .none kVytn dcytn pmytn anytn cdytn ctytn), slytn⟩)
    (cytn : PySem.W.codeIn K cdytn "_law_turn" = true)
    (kytn : PySem.W.keepIn K (.ref fytn) = true)
    (aywd : PySem.W.nsIn K mainGlobals "_law_word" = some (some (.ref fywd)))
    (lywd : K.lookup fywd = some ⟨ocywd, odywd, .func (PySem.W.fnOf "_law_word" "_law_word" (defArgs sLWord) (defBody sLWord) (defScope sLWord) .none kVywd dcywd pmywd anywd cdywd ctywd), slywd⟩)
    (cywd : PySem.W.codeIn K cdywd "_law_word" = true)
    (kywd : PySem.W.keepIn K (.ref fywd) = true)
    (ayrf : PySem.W.nsIn K mainGlobals "_law_refusals" = some (some (.ref fyrf)))
    (lyrf : K.lookup fyrf = some ⟨ocyrf, odyrf, .func (PySem.W.fnOf "_law_refusals" "_law_refusals" (defArgs sLRefusals) (defBody sLRefusals) (defScope sLRefusals) .none kVyrf dcyrf pmyrf anyrf cdyrf ctyrf), slyrf⟩)
    (cyrf : PySem.W.codeIn K cdyrf "_law_refusals" = true)
    (kyrf : PySem.W.keepIn K (.ref fyrf) = true)
    (akkb : PySem.W.nsIn K mainGlobals "row_bits" = some (some (.ref fkkb)))
    (lkkb : K.lookup fkkb = some ⟨ockkb, odkkb, .func (PySem.W.fnOf "row_bits" "row_bits" (defArgs sRowBits) (defBody sRowBits) (defScope sRowBits) .none kVkkb dckkb pmkkb ankkb cdkkb ctkkb), slkkb⟩)
    (ckkb : PySem.W.codeIn K cdkkb "row_bits" = true)
    (kkkb : PySem.W.keepIn K (.ref fkkb) = true)
    (akkn : PySem.W.nsIn K mainGlobals "normal" = some (some (.ref fkkn)))
    (lkkn : K.lookup fkkn = some ⟨ockkn, odkkn, .func (PySem.W.fnOf "normal" "normal" (defArgs sNormal) (defBody sNormal) (defScope sNormal) .none kVkkn dckkn pmkkn ankkn cdkkn ctkkn), slkkn⟩)
    (ckkn : PySem.W.codeIn K cdkkn "normal" = true)
    (kkkn : PySem.W.keepIn K (.ref fkkn) = true)
    (alaw : PySem.W.nsIn K mainGlobals "law" = some (some (.ref flaw)))
    (llaw : K.lookup flaw = some ⟨oclaw, odlaw, .func (PySem.W.fnOf "law" "law" (defArgs sLaw) (defBody sLaw) (defScope sLaw) .none kVlaw dclaw pmlaw anlaw cdlaw ctlaw), sllaw⟩)
    (claw : PySem.W.codeIn K cdlaw "law" = true)
    (klaw : PySem.W.keepIn K (.ref flaw) = true)
    (gkkb : ∀ (S : Setting) (u0 u1 v : Value), PySem.W.peek K S (bindArgs (PySem.W.fnOf "row_bits" "row_bits" (defArgs sRowBits) (defBody sRowBits) (defScope sRowBits) .none kVkkb dckkb pmkkb ankkb cdkkb ctkkb) ⟨[u0, u1], [("delay", v)]⟩) = some [(("row" : Str), u0), (("bits" : Str), u1), (("delay" : Str), v)])
    (hkkb : ∀ (S : Setting) (u0 u1 : Value), PySem.W.peek K S (bindArgs (PySem.W.fnOf "row_bits" "row_bits" (defArgs sRowBits) (defBody sRowBits) (defScope sRowBits) .none kVkkb dckkb pmkkb ankkb cdkkb ctkkb) ⟨[u0, u1], []⟩) = some [(("row" : Str), u0), (("bits" : Str), u1), (("delay" : Str), .int 0 tkb)])
    (gkkn : ∀ (S : Setting) (u0 v : Value), PySem.W.peek K S (bindArgs (PySem.W.fnOf "normal" "normal" (defArgs sNormal) (defBody sNormal) (defScope sNormal) .none kVkkn dckkn pmkkn ankkn cdkkn ctkkn) ⟨[u0], [("delay", v)]⟩) = some [(("row" : Str), u0), (("delay" : Str), v)])
    (hkkn : ∀ (S : Setting) (u0 : Value), PySem.W.peek K S (bindArgs (PySem.W.fnOf "normal" "normal" (defArgs sNormal) (defBody sNormal) (defScope sNormal) .none kVkkn dckkn pmkkn ankkn cdkkn ctkkn) ⟨[u0], []⟩) = some [(("row" : Str), u0), (("delay" : Str), .int 0 tkn)])
    (zisinstance : PySem.W.nsIn K mainGlobals "isinstance" = some none)
    (zint : PySem.W.nsIn K mainGlobals "int" = some none)
    (zbool : PySem.W.nsIn K mainGlobals "bool" = some none)
    (zlist : PySem.W.nsIn K mainGlobals "list" = some none)
    (ztuple : PySem.W.nsIn K mainGlobals "tuple" = some none)
    (zlen : PySem.W.nsIn K mainGlobals "len" = some none)
    (zrange : PySem.W.nsIn K mainGlobals "range" = some none)
    (zenumerate : PySem.W.nsIn K mainGlobals "enumerate" = some none)
    (zmin : PySem.W.nsIn K mainGlobals "min" = some none)
    (zsum : PySem.W.nsIn K mainGlobals "sum" = some none)
    (zsuper : PySem.W.nsIn K mainGlobals "super" = some none)
    (vW : PySem.W.nsIn K mainGlobals "ROW_KINDS" = some (some (.ref aW)))
    (vX : K.lookup aW = some ⟨.type "tuple", odW, .seq #[.str ("on" : Str) w1, .str ("off" : Str) w2] nW, slW⟩)
    (gxR : PySem.W.nsIn K mainGlobals "BadRow" = some (some (.ref CR)))
    (xlR : K.lookup CR = some (excClassObj nmR qR CR NR bsR [.ref CE, .type "ValueError", .type "Exception", .type "BaseException", .type "object"] true snR subR abR colR ddR m0R m1R m2R m3R m5R "ValueError.__new__"))
    (saR : PySem.W.findIn K (.ref CR) "__setattr__" = some (some (.builtin "object.__setattr__")))
    (gaR : PySem.W.findIn K (.ref CR) "__getattribute__" = some (some (.builtin "BaseException.__getattribute__")))
    (ggR : PySem.W.findIn K (.ref CR) "__getattr__" = some none)
    (ebR : PySem.W.subIn K (.ref CR) (.type "BaseException") = some true)
    (tyR : PySem.W.typeIn K (.ref CR) = some (.type "type"))
    (kcR : PySem.W.keepIn K (.ref CR) = true)
    (hdR : PySem.W.hasDictIn K CR = true)
    (icR : PySem.W.isClsIn K CR = true)
    (inR : PySem.W.findIn K (.ref CR) "__init__" = some (some (.ref iR)))
    (tiR : PySem.W.typeIn K (.ref iR) = some (.type "function"))
    (liR : K.lookup iR = some ⟨oiR, diR, .func (PySem.W.fnX "__init__" "BadRow.__init__" (defArgs sRow) (defBody sRow) (defScope sRow) [("__class__", ccR)] .none kViR dciR pmiR aniR (.ref cdaR) ctiR), sliR⟩)
    (ciR : PySem.W.codeIn K (.ref cdaR) "BadRow.__init__" = true)
    (ldR : K.lookup cdaR = some ⟨cclR, cddR, .fields vsR, ccsR⟩)
    (vfR : vsR[2]? = some (.str fileR tfR))
    (hfR : ((P.main.file : Str) == fileR) = true)
    (lcR : K.lookup ccR = some ⟨clR, cldR, .cell (some (.ref CR)), cslR⟩)
    (suR : PySem.W.ks_superIn K CR CR "__init__" = some (some (.builtin "ValueError.__init__")))
    (veR : PySem.W.subIn K (.ref CR) (.type "ValueError") = some true)
    (mrR : PySem.W.mroIn K CR (.ref CR) = some true)
    (nplaceR : PySem.W.findIn K (.ref CR) "place" = some none)
    (gxN : PySem.W.nsIn K mainGlobals "BadNumber" = some (some (.ref CN)))
    (xlN : K.lookup CN = some (excClassObj nmN qN CN NN bsN [.ref CE, .type "ValueError", .type "Exception", .type "BaseException", .type "object"] true snN subN abN colN ddN m0N m1N m2N m3N m5N "ValueError.__new__"))
    (saN : PySem.W.findIn K (.ref CN) "__setattr__" = some (some (.builtin "object.__setattr__")))
    (gaN : PySem.W.findIn K (.ref CN) "__getattribute__" = some (some (.builtin "BaseException.__getattribute__")))
    (ggN : PySem.W.findIn K (.ref CN) "__getattr__" = some none)
    (ebN : PySem.W.subIn K (.ref CN) (.type "BaseException") = some true)
    (tyN : PySem.W.typeIn K (.ref CN) = some (.type "type"))
    (kcN : PySem.W.keepIn K (.ref CN) = true)
    (hdN : PySem.W.hasDictIn K CN = true)
    (icN : PySem.W.isClsIn K CN = true)
    (inN : PySem.W.findIn K (.ref CN) "__init__" = some (some (.ref iN)))
    (tiN : PySem.W.typeIn K (.ref iN) = some (.type "function"))
    (liN : K.lookup iN = some ⟨oiN, diN, .func (PySem.W.fnX "__init__" "BadNumber.__init__" (defArgs sNum) (defBody sNum) (defScope sNum) [("__class__", ccN)] .none kViN dciN pmiN aniN (.ref cdaN) ctiN), sliN⟩)
    (ciN : PySem.W.codeIn K (.ref cdaN) "BadNumber.__init__" = true)
    (ldN : K.lookup cdaN = some ⟨cclN, cddN, .fields vsN, ccsN⟩)
    (vfN : vsN[2]? = some (.str fileN tfN))
    (hfN : ((P.main.file : Str) == fileN) = true)
    (lcN : K.lookup ccN = some ⟨clN, cldN, .cell (some (.ref CN)), cslN⟩)
    (suN : PySem.W.ks_superIn K CN CN "__init__" = some (some (.builtin "ValueError.__init__")))
    (veN : PySem.W.subIn K (.ref CN) (.type "ValueError") = some true)
    (mrN : PySem.W.mroIn K CN (.ref CN) = some true)
    (nwordN : PySem.W.findIn K (.ref CN) "word" = some none)
    (opq : PySem.W.nsIn K cStatics "thirdparty.any" = some none)
    (snn : PySem.W.subIn K (.ref CN) (.ref CN) = some true)
    (srn : PySem.W.subIn K (.ref CR) (.ref CN) = some false)
    (srr : PySem.W.subIn K (.ref CR) (.ref CR) = some true)
    (top : (P.main.scope.names.lookup ("super" : Str)).isSome = false) :
    ∃ fd : FuncData, (∀ (s : Shared) (v : Value), BindsTo s fd ⟨[v], []⟩ [("script", v)]) ∧ ∀ base : Heap, K.In base → base.Ns mainGlobals mg → FnOk P w K mg base (CX P w) 9 fa fd ["script"] (spLaw K) := by
  have e := hfa.symm.trans (PySem.W.mg_of X G alaw)
  cases e
  have Fpli := fun_mk (st := sListed) lpli cpli kpli
  have bpli := Fpli.binds (ps := ["value"]) fun _ _ _ _ _ _ us hl => match us, hl with | [_], _ => rfl
  have Fpwh := fun_mk (st := sWhole) lpwh cpwh kpwh
  have bpwh := Fpwh.binds (ps := ["value", "least", "most"]) fun _ _ _ _ _ _ us hl => match us, hl with | [_, _, _], _ => rfl
  have Fpbi := fun_mk (st := sBit) lpbi cpbi kpbi
  have bpbi := Fpbi.binds (ps := ["value"]) fun _ _ _ _ _ _ us hl => match us, hl with | [_], _ => rfl
  have Fpbs := fun_mk (st := sBits) lpbs cpbs kpbs
  have bpbs := Fpbs.binds (ps := ["row"]) fun _ _ _ _ _ _ us hl => match us, hl with | [_], _ => rfl
  have Fpdl := fun_mk (st := sDelayed) lpdl cpdl kpdl
  have bpdl := Fpdl.binds (ps := ["bits", "d"]) fun _ _ _ _ _ _ us hl => match us, hl with | [_, _], _ => rfl
  have Fpir := fun_mk (st := sIsRow) lpir cpir kpir
  have bpir := Fpir.binds (ps := ["row"]) fun _ _ _ _ _ _ us hl => match us, hl with | [_], _ => rfl
  have Fptr := fun_mk (st := sTold) lptr cptr kptr
  have bptr := Fptr.binds (ps := ["row", "word"]) fun _ _ _ _ _ _ us hl => match us, hl with | [_, _], _ => rfl
  have Fpcd := fun_mk (st := sCkDelay) lpcd cpcd kpcd
  have bpcd := Fpcd.binds (ps := ["delay", "word"]) fun _ _ _ _ _ _ us hl => match us, hl with | [_, _], _ => rfl
  have Fpcr := fun_mk (st := sCkRow) lpcr cpcr kpcr
  have bpcr := Fpcr.binds (ps := ["row"]) fun _ _ _ _ _ _ us hl => match us, hl with | [_], _ => rfl
  have Fpwo := fun_mk (st := sWorked) lpwo cpwo kpwo
  have bpwo := Fpwo.binds (ps := ["kind", "number", "bits"]) fun _ _ _ _ _ _ us hl => match us, hl with | [_, _, _], _ => rfl
  have Fprb0 := fun_mk (st := sRowBits0) lprb0 cprb0 kprb0
  have bprb0 := Fprb0.binds (ps := ["row", "bits", "delay"]) fun _ _ _ _ _ _ us hl => match us, hl with | [_, _, _], _ => rfl
  have Fpra := fun_mk (st := sRuleAt) lpra cpra kpra
  have bpra := Fpra.binds (ps := ["row", "place"]) fun _ _ _ _ _ _ us hl => match us, hl with | [_, _], _ => rfl
  have Fpru := fun_mk (st := sRules0) lpru cpru kpru
  have bpru := Fpru.binds (ps := ["row"]) fun _ _ _ _ _ _ us hl => match us, hl with | [_], _ => rfl
  have Fpus := fun_mk (st := sUsed) lpus cpus kpus
  have bpus := Fpus.binds (ps := ["row", "delay", "place", "rule"]) fun _ _ _ _ _ _ us hl => match us, hl with | [_, _, _, _], _ => rfl
  have Fpon0 := fun_mk (st := sOne0) lpon0 cpon0 kpon0
  have bpon0 := Fpon0.binds (ps := ["row", "delay"]) fun _ _ _ _ _ _ us hl => match us, hl with | [_, _], _ => rfl
  have Fpno0 := fun_mk (st := sNormal0) lpno0 cpno0 kpno0
  have bpno0 := Fpno0.binds (ps := ["row", "delay"]) fun _ _ _ _ _ _ us hl => match us, hl with | [_, _], _ => rfl
  have Fpon := fun_mk (st := sOne) lpon cpon kpon
  have bpon := Fpon.binds (ps := ["row", "delay"]) fun _ _ _ _ _ _ us hl => match us, hl with | [_, _], _ => rfl
  have Fprsa := fun_mk (st := sRulesAt) lprsa cprsa kprsa
  have bprsa := Fprsa.binds (ps := ["row"]) fun _ _ _ _ _ _ us hl => match us, hl with | [_], _ => rfl
  have Fpue := fun_mk (st := sUse) lpue cpue kpue
  have bpue := Fpue.binds (ps := ["row", "delay", "place"]) fun _ _ _ _ _ _ us hl => match us, hl with | [_, _, _], _ => rfl
  have Fynu := fun_mk (st := sLNums) lynu cynu kynu
  have bynu := Fynu.binds (ps := ["script"]) fun _ _ _ _ _ _ us hl => match us, hl with | [_], _ => rfl
  have Fydr := fun_mk (st := sLDraw) lydr cydr kydr
  have bydr := Fydr.binds (ps := ["numbers", "many"]) fun _ _ _ _ _ _ us hl => match us, hl with | [_, _], _ => rfl
  have Fyit := fun_mk (st := sLInt) lyit cyit kyit
  have byit := Fyit.binds (ps := ["value"]) fun _ _ _ _ _ _ us hl => match us, hl with | [_], _ => rfl
  have Fybo := fun_mk (st := sLBitsOk) lybo cybo kybo
  have bybo := Fybo.binds (ps := ["row", "many"]) fun _ _ _ _ _ _ us hl => match us, hl with | [_, _], _ => rfl
  have Fycl := fun_mk (st := sLClocks) lycl cycl kycl
  have bycl := Fycl.binds (ps := ["numbers"]) fun _ _ _ _ _ _ us hl => match us, hl with | [_], _ => rfl
  have Fyrn := fun_mk (st := sLRuns) lyrn cyrn kyrn
  have byrn := Fyrn.binds (ps := ["numbers"]) fun _ _ _ _ _ _ us hl => match us, hl with | [_], _ => rfl
  have Fyot := fun_mk (st := sLOut) lyot cyot kyot
  have byot := Fyot.binds (ps := ["row", "delay", "bits"]) fun _ _ _ _ _ _ us hl => match us, hl with | [_, _, _], _ => rfl
  have Fylr := fun_mk (st := sLRule) lylr cylr kylr
  have bylr := Fylr.binds (ps := ["row", "place"]) fun _ _ _ _ _ _ us hl => match us, hl with | [_, _], _ => rfl
  have Fyrs := fun_mk (st := sLRules) lyrs cyrs kyrs
  have byrs := Fyrs.binds (ps := ["row"]) fun _ _ _ _ _ _ us hl => match us, hl with | [_], _ => rfl
  have Fybh := fun_mk (st := sLBehind) lybh cybh kybh
  have bybh := Fybh.binds (ps := ["row", "delay", "place", "rule"]) fun _ _ _ _ _ _ us hl => match us, hl with | [_, _, _, _], _ => rfl
  have Fysm := fun_mk (st := sLSums) lysm cysm kysm
  have bysm := Fysm.binds (ps := ["row", "delay"]) fun _ _ _ _ _ _ us hl => match us, hl with | [_, _], _ => rfl
  have Fypt := fun_mk (st := sLPair) lypt cypt kypt
  have bypt := Fypt.binds (ps := ["told", "due"]) fun _ _ _ _ _ _ us hl => match us, hl with | [_, _], _ => rfl
  have Fyfi := fun_mk (st := sLFirst) lyfi cyfi kyfi
  have byfi := Fyfi.binds (ps := ["row", "delay", "rules"]) fun _ _ _ _ _ _ us hl => match us, hl with | [_, _, _], _ => rfl
  have Fyls := fun_mk (st := sLListed) lyls cyls kyls
  have byls := Fyls.binds (ps := ["row"]) fun _ _ _ _ _ _ us hl => match us, hl with | [_], _ => rfl
  have Fytn := fun_mk (st := sLTurn) lytn cytn kytn
  have bytn := Fytn.binds (ps := ["row", "delay", "rules"]) fun _ _ _ _ _ _ us hl => match us, hl with | [_, _, _], _ => rfl
  have Fywd := fun_mk (st := sLWord) lywd cywd kywd
  have bywd := Fywd.binds (ps := ["word", "row", "delay", "more"]) fun _ _ _ _ _ _ us hl => match us, hl with | [_, _, _, _], _ => rfl
  have Fyrf := fun_mk (st := sLRefusals) lyrf cyrf kyrf
  have byrf := Fyrf.binds (ps := ["row"]) fun _ _ _ _ _ _ us hl => match us, hl with | [_], _ => rfl
  have Fkkb := fun_mk (st := sRowBits) lkkb ckkb kkkb
  have Fkkn := fun_mk (st := sNormal) lkkn ckkn kkkn
  have Flaw := fun_mk (st := sLaw) llaw claw klaw
  have B : Bl mg := { isi := PySem.W.mg_none_of X G zisinstance, int := PySem.W.mg_none_of X G zint, bool := PySem.W.mg_none_of X G zbool, list := PySem.W.mg_none_of X G zlist, tuple := PySem.W.mg_none_of X G ztuple, len := PySem.W.mg_none_of X G zlen, range := PySem.W.mg_none_of X G zrange, enum := PySem.W.mg_none_of X G zenumerate, min := PySem.W.mg_none_of X G zmin, sum := PySem.W.mg_none_of X G zsum }
  have CN_ : Cn K mg := { kinds := ⟨aW, PySem.W.mg_of X G vW, fun H => .inr ⟨_, _, _, vX, rfl, rfl, by show 2 ≤ sizeLine; decide, .cons ⟨_, rfl⟩ (.cons ⟨_, rfl⟩ .nil)⟩⟩ }
  have OR : OexC K CR := { cls := ⟨_, _, _, _, _, _, _, _, _, _, _, _, _, _, _, xlR, rfl⟩, sa := saR, exC := ebR, tyC := tyR, kC := kcR }
  have SR : Sup P K mg CR iR "BadRow.__init__" sRow (PySem.W.fnX "__init__" "BadRow.__init__" (defArgs sRow) (defBody sRow) (defScope sRow) [("__class__", ccR)] .none kViR dciR pmiR aniR (.ref cdaR) ctiR) :=
    { O := OR, iC := inR, tI := tiR, ex := ⟨_, _, _, _, _, _, _, _, _, _, _, _, _, _, _, _, _, _, _, rfl, liR, ciR, ldR, vfR, hfR, lcR⟩, sup := suR, opq := opq, sVE := veR, mro := mrR, sG := PySem.W.mg_none_of X G zsuper, top := top }
  have bxR : Binds K (PySem.W.fnX "__init__" "BadRow.__init__" (defArgs sRow) (defBody sRow) (defScope sRow) [("__class__", ccR)] .none kViR dciR pmiR aniR (.ref cdaR) ctiR) ["self", "place"] [] := fun s us _ hl => by
    rw [List.append_nil] at hl ⊢
    exact match us, hl with | [_, _], _ => .of_eq rfl
  have ON : OexC K CN := { cls := ⟨_, _, _, _, _, _, _, _, _, _, _, _, _, _, _, xlN, rfl⟩, sa := saN, exC := ebN, tyC := tyN, kC := kcN }
  have SN : Sup P K mg CN iN "BadNumber.__init__" sNum (PySem.W.fnX "__init__" "BadNumber.__init__" (defArgs sNum) (defBody sNum) (defScope sNum) [("__class__", ccN)] .none kViN dciN pmiN aniN (.ref cdaN) ctiN) :=
    { O := ON, iC := inN, tI := tiN, ex := ⟨_, _, _, _, _, _, _, _, _, _, _, _, _, _, _, _, _, _, _, rfl, liN, ciN, ldN, vfN, hfN, lcN⟩, sup := suN, opq := opq, sVE := veN, mro := mrN, sG := PySem.W.mg_none_of X G zsuper, top := top }
  have bxN : Binds K (PySem.W.fnX "__init__" "BadNumber.__init__" (defArgs sNum) (defBody sNum) (defScope sNum) [("__class__", ccN)] .none kViN dciN pmiN aniN (.ref cdaN) ctiN) ["self", "word"] [] := fun s us _ hl => by
    rw [List.append_nil] at hl ⊢
    exact match us, hl with | [_, _], _ => .of_eq rfl
  let XC : Xc P K mg := { CR := CR, CN := CN, fR := iR, fN := iN, dR := _, dN := _, TR := SR, TN := SN, bR := bxR, bN := bxN, nR := nplaceR, nN := nwordN, gR := PySem.W.mg_of X G gxR, gN := PySem.W.mg_of X G gxN }
  let PG : Pg K mg := { li := { f := fpli, fd := _, F := Fpli, b := bpli, g := PySem.W.mg_of X G apli }, wh := { f := fpwh, fd := _, F := Fpwh, b := bpwh, g := PySem.W.mg_of X G apwh }, bi := { f := fpbi, fd := _, F := Fpbi, b := bpbi, g := PySem.W.mg_of X G apbi }, bs := { f := fpbs, fd := _, F := Fpbs, b := bpbs, g := PySem.W.mg_of X G apbs }, dl := { f := fpdl, fd := _, F := Fpdl, b := bpdl, g := PySem.W.mg_of X G apdl }, ir := { f := fpir, fd := _, F := Fpir, b := bpir, g := PySem.W.mg_of X G apir }, tr := { f := fptr, fd := _, F := Fptr, b := bptr, g := PySem.W.mg_of X G aptr }, cd := { f := fpcd, fd := _, F := Fpcd, b := bpcd, g := PySem.W.mg_of X G apcd }, cr := { f := fpcr, fd := _, F := Fpcr, b := bpcr, g := PySem.W.mg_of X G apcr }, wo := { f := fpwo, fd := _, F := Fpwo, b := bpwo, g := PySem.W.mg_of X G apwo }, rb0 := { f := fprb0, fd := _, F := Fprb0, b := bprb0, g := PySem.W.mg_of X G aprb0 }, ra := { f := fpra, fd := _, F := Fpra, b := bpra, g := PySem.W.mg_of X G apra }, ru := { f := fpru, fd := _, F := Fpru, b := bpru, g := PySem.W.mg_of X G apru }, us := { f := fpus, fd := _, F := Fpus, b := bpus, g := PySem.W.mg_of X G apus }, on0 := { f := fpon0, fd := _, F := Fpon0, b := bpon0, g := PySem.W.mg_of X G apon0 }, no0 := { f := fpno0, fd := _, F := Fpno0, b := bpno0, g := PySem.W.mg_of X G apno0 }, on := { f := fpon, fd := _, F := Fpon, b := bpon, g := PySem.W.mg_of X G apon }, rsa := { f := fprsa, fd := _, F := Fprsa, b := bprsa, g := PySem.W.mg_of X G aprsa }, ue := { f := fpue, fd := _, F := Fpue, b := bpue, g := PySem.W.mg_of X G apue } }
  let LW : Lg K mg := { nu := { f := fynu, fd := _, F := Fynu, b := bynu, g := PySem.W.mg_of X G aynu }, dr := { f := fydr, fd := _, F := Fydr, b := bydr, g := PySem.W.mg_of X G aydr }, it := { f := fyit, fd := _, F := Fyit, b := byit, g := PySem.W.mg_of X G ayit }, bo := { f := fybo, fd := _, F := Fybo, b := bybo, g := PySem.W.mg_of X G aybo }, cl := { f := fycl, fd := _, F := Fycl, b := bycl, g := PySem.W.mg_of X G aycl }, rn := { f := fyrn, fd := _, F := Fyrn, b := byrn, g := PySem.W.mg_of X G ayrn }, ot := { f := fyot, fd := _, F := Fyot, b := byot, g := PySem.W.mg_of X G ayot }, lr := { f := fylr, fd := _, F := Fylr, b := bylr, g := PySem.W.mg_of X G aylr }, rs := { f := fyrs, fd := _, F := Fyrs, b := byrs, g := PySem.W.mg_of X G ayrs }, bh := { f := fybh, fd := _, F := Fybh, b := bybh, g := PySem.W.mg_of X G aybh }, sm := { f := fysm, fd := _, F := Fysm, b := bysm, g := PySem.W.mg_of X G aysm }, pt := { f := fypt, fd := _, F := Fypt, b := bypt, g := PySem.W.mg_of X G aypt }, fi := { f := fyfi, fd := _, F := Fyfi, b := byfi, g := PySem.W.mg_of X G ayfi }, ls := { f := fyls, fd := _, F := Fyls, b := byls, g := PySem.W.mg_of X G ayls }, tn := { f := fytn, fd := _, F := Fytn, b := bytn, g := PySem.W.mg_of X G aytn }, wd := { f := fywd, fd := _, F := Fywd, b := bywd, g := PySem.W.mg_of X G aywd }, rf := { f := fyrf, fd := _, F := Fyrf, b := byrf, g := PySem.W.mg_of X G ayrf } }
  have KBkb : KBinds K (PySem.W.fnOf "row_bits" "row_bits" (defArgs sRowBits) (defBody sRowBits) (defScope sRowBits) .none kVkkb dckkb pmkkb ankkb cdkkb ctkkb) ["row", "bits", "delay"] ["delay"] (kG (["row", "bits", "delay"].length - 1)) (kG (["row", "bits", "delay"].length - 1)) := by
    refine ⟨fun s us ws kin hl => ?_, kG_rel⟩
    unfold kG at hl ⊢
    cases e : (us.length == ["row", "bits", "delay"].length - 1 && ws.length == 1) with
    | false => rw [e] at hl; exact absurd hl (by simp)
    | true =>
      obtain ⟨e1, e2⟩ := Bool.and_eq_true_iff.mp e
      have e1 : us.length = 2 := by simpa using e1
      have e2 : ws.length = 1 := by simpa using e2
      exact match us, ws, e1, e2 with | [u0, u1], [v], _, _ => PySem.W.kp_binds kin fun S => gkkb S u0 u1 v
  have KZkb : Binds K (PySem.W.fnOf "row_bits" "row_bits" (defArgs sRowBits) (defBody sRowBits) (defScope sRowBits) .none kVkkb dckkb pmkkb ankkb cdkkb ctkkb) ["row", "bits", "delay"] [.int 0 tkb] := fun s us kin hl => by
    have e1 : us.length = 2 := by simpa using hl
    exact match us, e1 with | [u0, u1], _ => PySem.W.kp_binds kin fun S => hkkb S u0 u1
  let Kkb : Kn K mg "row_bits" sRowBits ["row", "bits", "delay"] := { f := fkkb, fd := _, F := Fkkb, g := PySem.W.mg_of X G akkb, d0 := tkb, b := KBkb, b0 := KZkb }
  have KBkn : KBinds K (PySem.W.fnOf "normal" "normal" (defArgs sNormal) (defBody sNormal) (defScope sNormal) .none kVkkn dckkn pmkkn ankkn cdkkn ctkkn) ["row", "delay"] ["delay"] (kG (["row", "delay"].length - 1)) (kG (["row", "delay"].length - 1)) := by
    refine ⟨fun s us ws kin hl => ?_, kG_rel⟩
    unfold kG at hl ⊢
    cases e : (us.length == ["row", "delay"].length - 1 && ws.length == 1) with
    | false => rw [e] at hl; exact absurd hl (by simp)
    | true =>
      obtain ⟨e1, e2⟩ := Bool.and_eq_true_iff.mp e
      have e1 : us.length = 1 := by simpa using e1
      have e2 : ws.length = 1 := by simpa using e2
      exact match us, ws, e1, e2 with | [u0], [v], _, _ => PySem.W.kp_binds kin fun S => gkkn S u0 v
  have KZkn : Binds K (PySem.W.fnOf "normal" "normal" (defArgs sNormal) (defBody sNormal) (defScope sNormal) .none kVkkn dckkn pmkkn ankkn cdkkn ctkkn) ["row", "delay"] [.int 0 tkn] := fun s us kin hl => by
    have e1 : us.length = 1 := by simpa using hl
    exact match us, e1 with | [u0], _ => PySem.W.kp_binds kin fun S => hkkn S u0
  let Kkn : Kn K mg "normal" sNormal ["row", "delay"] := { f := fkkn, fd := _, F := Fkkn, g := PySem.W.mg_of X G akkn, d0 := tkn, b := KBkn, b0 := KZkn }
  have XT : Xt K CR CN := { xR := ⟨gaR, ggR, ebR, hdR⟩, xN := ⟨gaN, ggN, ebN, hdN⟩, nn := exm_of ebN icN tyN snn, rn := exm_of ebN icN tyN srn, rr := exm_of ebR icR tyR srr }
  exact ⟨_, fun s v => .of_eq rfl, fun base _ _ => ok_law (k := 0) B CN_ XC XT PG Kkb Kkn LW Flaw⟩
end K7

set_option Elab.async false
set_option linter.all false
open PySem PySem.W PyProof.Rows
set_option maxRecDepth 100000
set_option maxHeartbeats 0 in
theorem PySem.Challenge.cw_guardrungs_k24_rules_holds : PySem.Challenge.rw_guardrungs_k24_rules.Holds := by
  w_on; o_law; k_head; (case hw => w_witness2)
  k_fill
  refine L2.walk_of (l := PySem.Challenge.rw_guardrungs_k24_rules) (n := 63) (k := 9) (x := "script") (CX := fun w => L2.CX PySem.Challenge.rw_guardrungs_k24_rules.prog w) (sp := fun w => K7.spLaw _) rfl (by decide) rfl ⟨rfl, by decide, by decide⟩ (fun w h Y => PySem.W.kIn_of Y) ?F (fun _ _ a ns hl _ hS => ⟨a, ns, rfl, hS, hl, fun _ => rfl⟩) (fun _ _ _ _ _ h => by obtain ⟨_, _, _, _, _, _, _, _, _, _, _, _, z⟩ := h; exact z)
  case F =>
    intro w mg fa h KX G hmg
    refine' K7.all_mk KX G hmg ?apli ?lpli ?cpli ?kpli ?apwh ?lpwh ?cpwh ?kpwh ?apbi ?lpbi ?cpbi ?kpbi ?apbs ?lpbs ?cpbs ?kpbs ?apdl ?lpdl ?cpdl ?kpdl ?apir ?lpir ?cpir ?kpir ?aptr ?lptr ?cptr ?kptr ?apcd ?lpcd ?cpcd ?kpcd ?apcr ?lpcr ?cpcr ?kpcr ?apwo ?lpwo ?cpwo ?kpwo ?aprb0 ?lprb0 ?cprb0 ?kprb0 ?apra ?lpra ?cpra ?kpra ?apru ?lpru ?cpru ?kpru ?apus ?lpus ?cpus ?kpus ?apon0 ?lpon0 ?cpon0 ?kpon0 ?apno0 ?lpno0 ?cpno0 ?kpno0 ?apon ?lpon ?cpon ?kpon ?aprsa ?lprsa ?cprsa ?kprsa ?apue ?lpue ?cpue ?kpue ?aynu ?lynu ?cynu ?kynu ?aydr ?lydr ?cydr ?kydr ?ayit ?lyit ?cyit ?kyit ?aybo ?lybo ?cybo ?kybo ?aycl ?lycl ?cycl ?kycl ?ayrn ?lyrn ?cyrn ?kyrn ?ayot ?lyot ?cyot ?kyot ?aylr ?lylr ?cylr ?kylr ?ayrs ?lyrs ?cyrs ?kyrs ?aybh ?lybh ?cybh ?kybh ?aysm ?lysm ?cysm ?kysm ?aypt ?lypt ?cypt ?kypt ?ayfi ?lyfi ?cyfi ?kyfi ?ayls ?lyls ?cyls ?kyls ?aytn ?lytn ?cytn ?kytn ?aywd ?lywd ?cywd ?kywd ?ayrf ?lyrf ?cyrf ?kyrf ?akkb ?lkkb ?ckkb ?kkkb ?akkn ?lkkn ?ckkn ?kkkn ?alaw ?llaw ?claw ?klaw ?gkkb ?hkkb ?gkkn ?hkkn ?zisinstance ?zint ?zbool ?zlist ?ztuple ?zlen ?zrange ?zenumerate ?zmin ?zsum ?zsuper ?vW ?vX ?gxR ?xlR ?saR ?gaR ?ggR ?ebR ?tyR ?kcR ?hdR ?icR ?inR ?tiR ?liR ?ciR ?ldR ?vfR ?hfR ?lcR ?suR ?veR ?mrR ?nplaceR ?gxN ?xlN ?saN ?gaN ?ggN ?ebN ?tyN ?kcN ?hdN ?icN ?inN ?tiN ?liN ?ciN ?ldN ?vfN ?hfN ?lcN ?suN ?veN ?mrN ?nwordN ?opq ?snn ?srn ?srr ?top
    (case apli => k_is)
    (case lpli => k_is)
    (case cpli => k_is)
    (case kpli => k_is)
    (case apwh => k_is)
    (case lpwh => k_is)
    (case cpwh => k_is)
    (case kpwh => k_is)
    (case apbi => k_is)
    (case lpbi => k_is)
    (case cpbi => k_is)
    (case kpbi => k_is)
    (case apbs => k_is)
    (case lpbs => k_is)
    (case cpbs => k_is)
    (case kpbs => k_is)
    (case apdl => k_is)
    (case lpdl => k_is)
    (case cpdl => k_is)
    (case kpdl => k_is)
    (case apir => k_is)
    (case lpir => k_is)
    (case cpir => k_is)
    (case kpir => k_is)
    (case aptr => k_is)
    (case lptr => k_is)
    (case cptr => k_is)
    (case kptr => k_is)
    (case apcd => k_is)
    (case lpcd => k_is)
    (case cpcd => k_is)
    (case kpcd => k_is)
    (case apcr => k_is)
    (case lpcr => k_is)
    (case cpcr => k_is)
    (case kpcr => k_is)
    (case apwo => k_is)
    (case lpwo => k_is)
    (case cpwo => k_is)
    (case kpwo => k_is)
    (case aprb0 => k_is)
    (case lprb0 => k_is)
    (case cprb0 => k_is)
    (case kprb0 => k_is)
    (case apra => k_is)
    (case lpra => k_is)
    (case cpra => k_is)
    (case kpra => k_is)
    (case apru => k_is)
    (case lpru => k_is)
    (case cpru => k_is)
    (case kpru => k_is)
    (case apus => k_is)
    (case lpus => k_is)
    (case cpus => k_is)
    (case kpus => k_is)
    (case apon0 => k_is)
    (case lpon0 => k_is)
    (case cpon0 => k_is)
    (case kpon0 => k_is)
    (case apno0 => k_is)
    (case lpno0 => k_is)
    (case cpno0 => k_is)
    (case kpno0 => k_is)
    (case apon => k_is)
    (case lpon => k_is)
    (case cpon => k_is)
    (case kpon => k_is)
    (case aprsa => k_is)
    (case lprsa => k_is)
    (case cprsa => k_is)
    (case kprsa => k_is)
    (case apue => k_is)
    (case lpue => k_is)
    (case cpue => k_is)
    (case kpue => k_is)
    (case aynu => k_is)
    (case lynu => k_is)
    (case cynu => k_is)
    (case kynu => k_is)
    (case aydr => k_is)
    (case lydr => k_is)
    (case cydr => k_is)
    (case kydr => k_is)
    (case ayit => k_is)
    (case lyit => k_is)
    (case cyit => k_is)
    (case kyit => k_is)
    (case aybo => k_is)
    (case lybo => k_is)
    (case cybo => k_is)
    (case kybo => k_is)
    (case aycl => k_is)
    (case lycl => k_is)
    (case cycl => k_is)
    (case kycl => k_is)
    (case ayrn => k_is)
    (case lyrn => k_is)
    (case cyrn => k_is)
    (case kyrn => k_is)
    (case ayot => k_is)
    (case lyot => k_is)
    (case cyot => k_is)
    (case kyot => k_is)
    (case aylr => k_is)
    (case lylr => k_is)
    (case cylr => k_is)
    (case kylr => k_is)
    (case ayrs => k_is)
    (case lyrs => k_is)
    (case cyrs => k_is)
    (case kyrs => k_is)
    (case aybh => k_is)
    (case lybh => k_is)
    (case cybh => k_is)
    (case kybh => k_is)
    (case aysm => k_is)
    (case lysm => k_is)
    (case cysm => k_is)
    (case kysm => k_is)
    (case aypt => k_is)
    (case lypt => k_is)
    (case cypt => k_is)
    (case kypt => k_is)
    (case ayfi => k_is)
    (case lyfi => k_is)
    (case cyfi => k_is)
    (case kyfi => k_is)
    (case ayls => k_is)
    (case lyls => k_is)
    (case cyls => k_is)
    (case kyls => k_is)
    (case aytn => k_is)
    (case lytn => k_is)
    (case cytn => k_is)
    (case kytn => k_is)
    (case aywd => k_is)
    (case lywd => k_is)
    (case cywd => k_is)
    (case kywd => k_is)
    (case ayrf => k_is)
    (case lyrf => k_is)
    (case cyrf => k_is)
    (case kyrf => k_is)
    (case akkb => k_is)
    (case lkkb => k_is)
    (case ckkb => k_is)
    (case kkkb => k_is)
    (case akkn => k_is)
    (case lkkn => k_is)
    (case ckkn => k_is)
    (case kkkn => k_is)
    (case alaw => k_is)
    (case llaw => k_is)
    (case claw => k_is)
    (case klaw => k_is)
    (case gkkb => intro S u0 u1 v; rfl)
    (case hkkb => intro S u0 u1; rfl)
    (case gkkn => intro S u0 v; rfl)
    (case hkkn => intro S u0; rfl)
    (case zisinstance => k_is)
    (case zint => k_is)
    (case zbool => k_is)
    (case zlist => k_is)
    (case ztuple => k_is)
    (case zlen => k_is)
    (case zrange => k_is)
    (case zenumerate => k_is)
    (case zmin => k_is)
    (case zsum => k_is)
    (case zsuper => k_is)
    (case vW => k_is)
    (case vX => k_is)
    (case gxR => k_is)
    (case xlR => k_is)
    (case saR => k_is)
    (case gaR => k_is)
    (case ggR => k_is)
    (case ebR => k_is)
    (case tyR => k_is)
    (case kcR => k_is)
    (case hdR => k_is)
    (case icR => k_is)
    (case inR => k_is)
    (case tiR => k_is)
    (case liR => k_is)
    (case ciR => k_is)
    (case ldR => k_is)
    (case vfR => first | rfl | k_is)
    (case hfR => first | rfl | decide | k_is)
    (case lcR => k_is)
    (case suR => first | rfl | decide +kernel)
    (case veR => k_is)
    (case mrR => k_is)
    (case nplaceR => k_is)
    (case gxN => k_is)
    (case xlN => k_is)
    (case saN => k_is)
    (case gaN => k_is)
    (case ggN => k_is)
    (case ebN => k_is)
    (case tyN => k_is)
    (case kcN => k_is)
    (case hdN => k_is)
    (case icN => k_is)
    (case inN => k_is)
    (case tiN => k_is)
    (case liN => k_is)
    (case ciN => k_is)
    (case ldN => k_is)
    (case vfN => first | rfl | k_is)
    (case hfN => first | rfl | decide | k_is)
    (case lcN => k_is)
    (case suN => first | rfl | decide +kernel)
    (case veN => k_is)
    (case mrN => k_is)
    (case nwordN => k_is)
    (case opq => k_is)
    (case snn => k_is)
    (case srn => k_is)
    (case srr => k_is)
    (case top => first | rfl | decide)

