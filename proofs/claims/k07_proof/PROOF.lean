import PyProof.Rows.All
import Wide.All
import OpenK.AllK
import Wide.FinOn
import KE.KExcSuper
import HandS.Base
import HandS.Call
import HandS.List
import HandS.Ends
import HandS.Exc
import HandS.ExcOwn
import HandS.ExcInit
import HandS.Words
import HandS.Nested
import HandS.TryMany
import KE.GoesMore
import KE.GoesEnum
import HandS.Iter
import HandS.Sort
import HandS.SortInts
import PySem.Challenge.RW_guardrungs_k07_least_swaps
import HandS.ForMost
import HandS.ForExc
import HandS.IsInst
import HandS.Conv
import HandS.Zip
import HandS.DictComp
import HandS.SortRule
import HandS.ExcField
import HandS.FStr
import HandS.TupAny
import HandS.TupLe
set_option Elab.async false
set_option linter.all false
set_option maxRecDepth 100000
set_option maxHeartbeats 4000000
namespace GX
open PySem PySem.Spec PyProof.Rows L2 NdefX
/-- what the written part says of an own exception class whose __init__ goes over super -/
structure Sup (P : Program) (K : PySem.W.Frag) (mg : Str → Option Value) (C fI : Addr) (qual : Str) (st : Stmt) (fd : FuncData) : Prop where
  O : OexC K C
  iC : PySem.W.findIn K (.ref C) "__init__" = some (some (.ref fI))
  tI : PySem.W.typeIn K (.ref fI) = some (.type "function")
  ex : ∃ (oc : Value) (od : Option Addr) (kV doc pm ct : Value) (an : Option Addr) (osl : Array (Option Value)) (cc cda : Addr) (ccl cl : Value) (cdd cld : Option Addr) (vs : Array Value) (ccs csl : Array (Option Value)) (file : Str) (tf : Tok),
    fd = PySem.W.fnX "__init__" qual (defArgs st) (defBody st) (defScope st) [("__class__", cc)] .none kV doc pm an (.ref cda) ct ∧
    K.lookup fI = some ⟨oc, od, .func fd, osl⟩ ∧ PySem.W.codeIn K (.ref cda) qual = true ∧ K.lookup cda = some ⟨ccl, cdd, .fields vs, ccs⟩ ∧ vs[2]? = some (.str file tf) ∧ ((P.main.file : Str) == file) = true ∧
    K.lookup cc = some ⟨cl, cld, .cell (some (.ref C)), csl⟩
  sup : PySem.W.ks_superIn K C C "__init__" = some (some (.builtin "ValueError.__init__"))
  opq : PySem.W.nsIn K cStatics "thirdparty.any" = some none
  sVE : PySem.W.subIn K (.ref C) (.type "ValueError") = some true
  mro : PySem.W.mroIn K C (.ref C) = some true
  sG : mg "super" = none
  top : (P.main.scope.names.lookup ("super" : Str)).isSome = false
section
variable {X : Cx} {pins : List (Addr × Obj)} {σ : L2.St} {H : Hp} {s : Shared} {C a u : Addr}
/-- the built-in __init__ bound to the exception, called -/
theorem sup_call {A : Around} {E : Value → Shared → Prop} {us : List Value} {Q : Value → Shared → Prop} (T : OexC X.K C) (I : Inv X pins σ H s) (e : H a = some (exo a C none))
    (hu : s.heap.get? u = some (PySem.W.kxs_mw "ValueError.__init__" a)) (hl : us.length ≤ sizeLine) (h : ∀ s', Inv X pins σ H s' → Q .none s') : wpAny (model X.prog X.w) A (call (.ref u) us) Q E s := by
  obtain ⟨nm, q, N, bs, bm, sn, sub, ab, col, dd, k0, k1, k2, k3, k5, hC, hbm⟩ := T.cls
  have hC' := I.kIn _ _ hC
  obtain ⟨t1, ho⟩ := exo_at I.hok e
  obtain ⟨hp, g, d, t, os⟩ := s
  refine wpAny_call (codeAny_of_tree ?_)
  show wpAny _ A.in1 (callAny (.ref u) ⟨us, []⟩) _ _ _
  simp only [callAny]
  refine wpAny_bind (wpAny_load hu ?_)
  simp only [PySem.W.kxs_mw, show (Value.type "method-wrapper" == Value.type "method" || Value.type "method-wrapper" == Value.type "builtin_function_or_method" || Value.type "method-wrapper" == Value.type "method-wrapper") = true by decide, if_true]
  refine PySem.W.KFB.if_so (by decide) ?_
  refine wpAny_bind (PySem.W.check_bound_init F.excBase_ValueError.toExcCallFacts hC' ho rfl ?_)
  refine wpAny_bind (wpAny_pure (wpAny_pure ?_))
  refine ⟨plainId_quiet F.excBase_ValueError.init.plain _, codeAny_builtin F.excBase_ValueError.initEntry ?_⟩
  refine PySem.W.exc_init_tree (cls := .ref C) (t0 := t1) (dv := none) (c2 := .none) (c3 := .none) (b4 := .bool false) ho hl fun h' k hx _ => ?_
  have J := I.write (t' := t) (x := a) (e := a) (o := exo a C none) (by rw [e]; exact True.intro) (.inl rfl) k ⟨_, hx⟩ (exo_ok hx)
  have eu : upd H a (exo a C none) = H := by
    funext b
    by_cases hb : b = a
    · rw [hb, upd_same, e]
    · rw [upd_ne hb]
  rw [eu] at J
  exact h _ J
/-- super().__init__(e, ..) as a statement of an exception's own __init__ -/
theorem sup_stmt {body : List Stmt} {e : Expr} {es : List Expr} {ta : TA} {p0 p1 p2 p3 p4 : Pos} {pl : Sem Bool} {nx : Hp → Prop} {fI cda cc : Addr} {fd : FuncData} {ar : Arg} {oc ccl cl : Value} {od cdd cld : Option Addr} {osl ccs csl : Array (Option Value)} {vs : Array Value} {file : Str} {tf : Tok}
    (O : OexC X.K C) (hfu : X.env.func = some fI) (lkf : X.K.lookup fI = some ⟨oc, od, .func fd, osl⟩) (hp : (fd.params.posonlyargs ++ fd.params.args).head? = some ar) (hco : X.env.code = .ref cda) (lkc : X.K.lookup cda = some ⟨ccl, cdd, .fields vs, ccs⟩)
    (hvs : vs[2]? = some (.str file tf)) (hfile : ((X.prog.main.file : Str) == file) = true) (hcel : X.env.cells.lookup ("__class__" : Str) = some cc) (lkcc : X.K.lookup cc = some ⟨cl, cld, .cell (some (.ref C)), csl⟩)
    (hks : X.env.kindOf "super" = some .globalImplicit) (hkc : X.env.kindOf "__class__" = some .free) (hk0 : X.env.kindOf ar.arg = some .local) (hN0 : X.N[0]? = some ar.arg)
    (sup : PySem.W.ks_superIn X.K C C "__init__" = some (some (.builtin "ValueError.__init__"))) (opq : PySem.W.nsIn X.K cStatics "thirdparty.any" = some none) (sVE : PySem.W.subIn X.K (.ref C) (.type "ValueError") = some true)
    (mro : PySem.W.mroIn X.K C (.ref C) = some true) (sG : X.mg "super" = none) (top : (X.prog.main.scope.names.lookup ("super" : Str)).isSome = false)
    (hpa : PA X (e :: es) ta) (I : Inv X pins σ H s) (hs0 : σ[0]? = some (some (.ref a))) (ea : H a = some (exo a C none)) (h : ta σ H fun vs H1 => H1 a = some (exo a C none) ∧ vs.length ≤ 1000 ∧ nx H1)
    (hi : interactive X.env = false) (hsw : swapsWith (.Call (.Attribute (.Call (.Name "super" p0) [] [] p1) "__init__" p2) (e :: es) [] p3) none p4.line X.env = pure false)
    (heq : eval (.Call (.Attribute (.Call (.Name "super" p0) [] [] p1) "__init__" p2) (e :: es) [] p3) X.env = (do
      let ov ← attributeBase (.Call (.Name "super" p0) [] [] p1) "__init__" X.env (eval (.Call (.Name "super" p0) [] [] p1) X.env)
      standAt p2.atName
      let (f, first) ← holding [ov] (getMethod ov "__init__" pl)
      callWith p3 f first (backTo p3 (starEach (e :: es) X.env)) []))
    (he : starEach (e :: es) X.env = (false, eval e X.env) :: starEach es X.env) (hpl : (backTo p3 (starEach es X.env)).any (·.1) = false) :
    _root_.PySem.wpAt (model X.prog X.w) X.A (.func body X.env) (exec (.Expr (.Call (.Attribute (.Call (.Name "super" p0) [] [] p1) "__init__" p2) (e :: es) [] p3) p4) X.env) (fun f s' => f = .next ∧ ∃ H1, Inv X pins σ H1 s' ∧ nx H1) X.xe s := by
  refine ks_wpAt_Expr_any ?_ hi hsw
  refine ks_wpAt_MethodCall ?_ heq
  obtain ⟨nm, q, N, bs, bm, sn, sub, ab, col, dd, k0, k1, k2, k3, k5, hC, hbm⟩ := O.cls
  have hC' := I.kIn _ _ hC
  obtain ⟨cd, hcd⟩ : ∃ cd, PySem.W.clsIn X.K C = some cd := by
    unfold PySem.W.ks_superIn at sup
    cases hc : PySem.W.clsIn X.K C with
    | none => rw [hc] at sup; cases sup
    | some cd => exact ⟨cd, rfl⟩
  have hsup : PySem.W.alongIn X.K "__init__" ((cd.mro.dropWhile (· != .ref C)).drop 1) = some (some (.builtin "ValueError.__init__")) := by
    unfold PySem.W.ks_superIn at sup
    rw [hcd] at sup
    exact sup
  obtain ⟨t1, hoe⟩ := exo_at I.hok ea
  have hnc : ∀ c, (({ cls := .ref C, dict := none, data := .fields #[.ref t1, .none, .none, .none, .bool false, .none] } : Obj)).data ≠ .cls c := fun c z => by cases z
  refine ks_wpAt_super_base hks hkc rfl hfu (I.kIn _ _ lkf) rfl hp hco (I.kIn _ _ lkc) rfl hvs hfile top ?_
  obtain ⟨mb, hb1, hb2⟩ := I.mod.blt
  refine PySem.W.ks_loadName_global I.ok.kind hks (Calls.loadGlobal_builtin (by rw [I.ok.glob]; exact I.mod.glob.keeps I.bk) sG (by rw [I.ok.blt]; exact hb1.keeps I.bk) ((hb2 "super" (by decide)).trans (by decide +kernel)) ⟨rfl, ?_⟩)
  refine wpAny_loadName_free I.ok.kind hkc hcel ⟨_, I.kIn _ _ lkcc, rfl⟩ ?_
  obtain ⟨m, hn, hlk⟩ := id I.loc
  obtain ⟨u0, r0, l0⟩ := hlk 0 ar.arg (.ref a) hN0 hs0 (.inl hk0)
  obtain rfl : u0 = Value.ref a := r0
  have hma : m ar.arg = some (.ref a) := by
    rcases l0 with ⟨_, z⟩ | ⟨z | z, _⟩
    · exact z
    · rw [hk0] at z; cases z
    · rw [hk0] at z; cases z
  refine wpAny_loadName_local I.ok.kind hk0 hn hma ?_
  refine ks_wpAny_isType_cls hC' rfl ⟨rfl, ?_⟩
  obtain ⟨hh, g, d, t, os⟩ := s
  refine ks_wpAny_call_super hC' rfl hoe rfl hnc (PySem.W.looks_mroIn I.kIn mro) (fun h1 e1 kp1 => ?_)
  have I1 : Inv X pins σ H ⟨h1, g, d, t, os⟩ := I.kept (t' := t) kp1
  have hoe1 := kp1 _ _ hoe
  have ne : a ≠ C := fun z => by
    rw [z] at hoe
    have hoe := hoe.symm.trans hC'
    cases hoe
  have hI : PySem.W.Looks (model X.prog X.w) h1 (isInstance (.ref a) (.type "ValueError")) true :=
    (show PySem.W.InstAt h1 a ({ cls := .ref C, dict := none, data := .fields #[.ref t1, .none, .none, .none, .bool false, .none] } : Obj) C none from ⟨hoe1, rfl, rfl, trivial⟩).type.andThen (PySem.W.looks_subIn I1.kIn sVE)
  refine PySem.W.kxs_getMethod PySem.W.kxs_ValueError e1 (PySem.W.looks_opaque I1.kIn opq) (l₀ := cd.mro) (fun A Q E s k q => wpAny_bind ((PySem.W.looks_clsIn I1.kIn hcd) A _ E s k (wpAny_pure q))) rfl I1.kIn hsup hI ne rfl ?_
  have kp2 : ∀ b o, h1.get? b = some o → (h1.push (PySem.W.kxs_mw "ValueError.__init__" a)).get? b = some o := fun b o z => Heap.get?_push_of_some _ z
  have hu2 : (h1.push (PySem.W.kxs_mw "ValueError.__init__" a)).get? h1.objs.size = some (PySem.W.kxs_mw "ValueError.__init__" a) := Heap.get?_push_at rfl rfl
  have I2 : Inv X pins σ H ⟨h1.push (PySem.W.kxs_mw "ValueError.__init__" a), g, d, t + 1, os⟩ := I1.kept (t' := t + 1) kp2
  have nH : H h1.objs.size = none := I1.hok.fresh (Nat.le_refl _)
  have I3 : Inv X ((h1.objs.size, PySem.W.kxs_mw "ValueError.__init__" a) :: pins) σ H ⟨h1.push (PySem.W.kxs_mw "ValueError.__init__" a), g, d, t + 1, os⟩ := I2.pins_of fun p hp => by
    rcases List.mem_cons.mp hp with rfl | hp
    · exact ⟨hu2, nH, Nat.ne_of_gt I1.lt, I1.nofs (Nat.le_refl _), fun v z => by cases z⟩
    · exact I2.pin p (List.mem_append_right _ hp)
  show wpAny _ _ (callWith p3 (.ref h1.objs.size) [] (backTo p3 (starEach (e :: es) X.env)) []) _ _ _
  rw [he]
  refine PySem.W.kxs_callWith (i := "ValueError.__init__") (x := a) (by show (false || (backTo p3 (starEach es X.env)).any (·.1)) = false; rw [hpl]; rfl) ?_
  refine Calls.evalArgs_plain ?_
  show wpAny _ _ (spliced (backTo p3 ((false, eval e X.env) :: starEach es X.env))) _ _ _
  rw [← he]
  refine thn (hpa.run p3 _ _ σ H _ I3 h) fun us s4 ⟨vs4, H4, I4, r4, e4, l4, q4⟩ => ?_
  have hu4 := (I4.pin _ (List.mem_append_right _ List.mem_cons_self)).1
  have I5 : Inv X pins σ H4 s4 := I4.pins_of fun p hp => I4.pin p (List.mem_append_right _ (List.mem_cons_of_mem _ hp))
  refine ⟨hu4, ?_⟩
  refine sup_call O I5 e4 hu4 ?_ fun s5 J => ⟨rfl, H4, J, q4⟩
  show us.length ≤ sizeLine
  rw [← Paired.length r4, sizeLine_eq]
  omega
end
/-- an exception's own __init__ by its body -/
theorem fn_ofI {CX : CXT} {P : Program} {w : World} {K : PySem.W.Frag} {mg : Str → Option Value} {base : Heap} {k : Nat} {C fI : Addr} {qual : Str} {st : Stmt} {fd : FuncData} {N ps : List Str} {ar : Arg} {sp : Sp} {ex : Expr} {es : List Expr} {rest : List Stmt} {p0 p1 p2 p3 p4 : Pos}
    (T : Sup P K mg C fI qual st fd) (S : NScope N ps ["__class__"] (defScope st)) (har : ((defArgs st).posonlyargs ++ (defArgs st).args).head? = some ar) (hps : ps[0]? = some ar.arg) (hsu : (defScope st).names.lookup ("super" : Str) = some .globalImplicit)
    (len : ∀ vs H Q E, sp vs H Q E → vs.length = ps.length)
    (hst : defBody st = .Expr (.Call (.Attribute (.Call (.Name "super" p0) [] [] p1) "__init__" p2) (ex :: es) [] p3) p4 :: rest)
    (hside : ∀ (cc cda L : Addr), interactive (envF ⟨"__init__", qual, defArgs st, defBody st, defScope st, [("__class__", cc)], cda⟩ fI L) = false ∧
      swapsWith (.Call (.Attribute (.Call (.Name "super" p0) [] [] p1) "__init__" p2) (ex :: es) [] p3) none p4.line (envF ⟨"__init__", qual, defArgs st, defBody st, defScope st, [("__class__", cc)], cda⟩ fI L) = pure false ∧
      (∃ pl : Sem Bool, eval (.Call (.Attribute (.Call (.Name "super" p0) [] [] p1) "__init__" p2) (ex :: es) [] p3) (envF ⟨"__init__", qual, defArgs st, defBody st, defScope st, [("__class__", cc)], cda⟩ fI L) = (do
        let ov ← attributeBase (.Call (.Name "super" p0) [] [] p1) "__init__" (envF ⟨"__init__", qual, defArgs st, defBody st, defScope st, [("__class__", cc)], cda⟩ fI L) (eval (.Call (.Name "super" p0) [] [] p1) (envF ⟨"__init__", qual, defArgs st, defBody st, defScope st, [("__class__", cc)], cda⟩ fI L))
        standAt p2.atName
        let (f, first) ← holding [ov] (getMethod ov "__init__" pl)
        callWith p3 f first (backTo p3 (starEach (ex :: es) (envF ⟨"__init__", qual, defArgs st, defBody st, defScope st, [("__class__", cc)], cda⟩ fI L))) [])) ∧
      starEach (ex :: es) (envF ⟨"__init__", qual, defArgs st, defBody st, defScope st, [("__class__", cc)], cda⟩ fI L) = (false, eval ex (envF ⟨"__init__", qual, defArgs st, defBody st, defScope st, [("__class__", cc)], cda⟩ fI L)) :: starEach es (envF ⟨"__init__", qual, defArgs st, defBody st, defScope st, [("__class__", cc)], cda⟩ fI L) ∧
      (backTo p3 (starEach es (envF ⟨"__init__", qual, defArgs st, defBody st, defScope st, [("__class__", cc)], cda⟩ fI L))).any (·.1) = false)
    (hbody : ∀ (cc cda : Addr) (A : Around) (outer : List Env) (s : Shared) (H : Hp) (vs : List V) (Q : VK) (E : XK), Room k (A.deeper (envF ⟨"__init__", qual, defArgs st, defBody st, defScope st, [("__class__", cc)], cda⟩ fI s.heap.objs.size)) → sp vs H Q E →
      ∃ (a : Addr) (vs' : List V) (ta : TA) (t : TS), vs = .ref a :: vs' ∧ H a = some (exo a C none) ∧ PA (ncx CX P w K mg base N ⟨"__init__", qual, defArgs st, defBody st, defScope st, [("__class__", cc)], cda⟩ fI A outer s H E) (ex :: es) ta ∧
        PSs (ncx CX P w K mg base N ⟨"__init__", qual, defArgs st, defBody st, defScope st, [("__class__", cc)], cda⟩ fI A outer s H E) rest t ∧
        ta (startF N vs [none]) H fun us H1 => H1 a = some (exo a C none) ∧ us.length ≤ 1000 ∧ t { nx := fun _ H' => Q .non H', rt := Q } (startF N vs [none]) H1) :
    FnOk P w K mg base CX (k + 1) fI fd ps sp := by
  obtain ⟨oc, od, kV, doc, pm, ct, an, osl, cc, cda, ccl, cl, cdd, cld, vs2, ccs, csl, file, tf, efd, lkf, hcd, lkc, hvs, hfile, lkcc⟩ := T.ex
  subst efd
  refine ⟨len, fun A outer s H args us vs Q E hr e0 hb r hsp => ?_⟩
  have hl := len _ _ _ _ hsp
  have KX : K.In s.heap := e0.mod.kin.keeps fun b o e => (e0.bs b o e).1
  have lim : s.heap.NoLimit := e0.mod.nolimit.keeps fun b o e => (e0.bs b o e).1
  have hloc : ∀ y ∈ ps.zip us, (defScope st).names.lookup y.1 = some .local := fun ⟨n, _⟩ hy => S.par n (List.of_mem_zip hy).1
  obtain ⟨h1, h2, ⟨pl, h3⟩, h4, h5⟩ := hside cc cda s.heap.objs.size
  refine ks_codeAny_call_defAt (fd := PySem.W.fnX "__init__" qual (defArgs st) (defBody st) (defScope st) [("__class__", cc)] .none kV doc pm an (.ref cda) ct) (body := defBody st) (binds := ps.zip us) hr.depth (KX _ _ lkf) rfl lim (PySem.W.codeRec_of KX hcd) rfl hb S.nocell hloc (fun h₁ hns kp => ?_) S.co S.gen S.kind
  have C0 : CellsAt [(("__class__" : Str), cc)] ["__class__"] [none] s.heap H := by
    have bc := e0.mod.kin _ _ lkcc
    have hc := e0.bs _ _ bc
    have look1 : ∀ {y : Str} {c : Addr}, List.lookup y [(("__class__" : Str), cc)] = some c → y = "__class__" ∧ c = cc := fun {y c} z => by
      by_cases hy : y = ("__class__" : Str)
      · subst hy
        simp [List.lookup] at z
        exact ⟨rfl, z.symm⟩
      · have e : (y == ("__class__" : Str)) = false := by simpa using hy
        simp [List.lookup, e] at z
    refine ⟨rfl, fun y c z => ?_, fun x y c z1 z2 => (look1 z1).1.trans (look1 z2).1.symm, fun i y z => ?_⟩
    · obtain ⟨_, rfl⟩ := look1 z
      exact ⟨hc.2, _, _, hc.1, rfl⟩
    · cases i with
      | zero =>
        have e : ("__class__" : Str) = y := by simpa using z
        subst e
        exact ⟨cc, by simp [List.lookup], fun v q => by simp at q⟩
      | succ i => simp at z
  have I : Inv (ncx CX P w K mg base N ⟨"__init__", qual, defArgs st, defBody st, defScope st, [("__class__", cc)], cda⟩ fI A outer s H E) [] (startF N vs [none]) H { s with heap := h₁, toks := s.toks + (ps.zip us).length } := inv_startN S hr.hd e0 hl r C0 hns kp
  obtain ⟨a, vs', ta, t, evs, ea, hpa, hrest, hq⟩ := hbody cc cda A outer s H vs Q E (hr.deeper _) hsp
  have hN0 : N[0]? = some ar.arg := by
    have hpre := S.pre
    have q : (ps ++ [("__class__" : Str)])[0]? = some ar.arg := by
      rw [List.getElem?_append_left (by
        cases ps with
        | nil => simp at hps
        | cons _ _ => simp)]
      exact hps
    rw [← hpre, List.getElem?_take_of_lt (by simp)] at q
    exact q
  have hs0 : (startF N vs [none])[0]? = some (some (.ref a)) := by
    rw [evs]
    rfl
  have hloc0 : (defScope st).names.lookup ar.arg = some .local := S.par _ (List.mem_of_getElem? hps)
  have fin : ∀ {σ' : L2.St} {H' : Hp} {v : V} {u : Value} {s' : Shared}, Inv (ncx CX P w K mg base N ⟨"__init__", qual, defArgs st, defBody st, defScope st, [("__class__", cc)], cda⟩ fI A outer s H E) [] σ' H' s' → L2.RelV v u → Q v H' → CE outer P w H s Q u s' :=
    fun {σ' H' v u s'} J rv q => ⟨v, H', J.os, J.bare, J.base, J.hok, rv, q⟩
  have sup := sup_stmt (X := ncx CX P w K mg base N ⟨"__init__", qual, defArgs st, defBody st, defScope st, [("__class__", cc)], cda⟩ fI A outer s H E) (body := defBody st) (p0 := p0) (p1 := p1) (p2 := p2) (p3 := p3) (p4 := p4) (pl := pl) (e := ex) (es := es) (C := C) (a := a)
    (nx := fun H1 => t { nx := fun _ H' => Q .non H', rt := Q } (startF N vs [none]) H1) (fI := fI) (cda := cda) (cc := cc) (ar := ar) (vs := vs2) (file := file) (tf := tf)
    T.O rfl lkf har rfl lkc hvs hfile (by rfl) lkcc hsu (S.frk _ List.mem_cons_self) hloc0 hN0 T.sup T.opq T.sVE T.mro T.sG T.top hpa I hs0 ea hq h1 h2 h3 h4 h5
  show _root_.PySem.wpAt (model P w) (A.deeper (envF ⟨"__init__", qual, defArgs st, defBody st, defScope st, [("__class__", cc)], cda⟩ fI s.heap.objs.size)) (.func (defBody st) (envF ⟨"__init__", qual, defArgs st, defBody st, defScope st, [("__class__", cc)], cda⟩ fI s.heap.objs.size))
    (execs (defBody st) (envF ⟨"__init__", qual, defArgs st, defBody st, defScope st, [("__class__", cc)], cda⟩ fI s.heap.objs.size)) _ _ _
  have sp2 : ∀ (stmts : List Stmt), stmts = .Expr (.Call (.Attribute (.Call (.Name "super" p0) [] [] p1) "__init__" p2) (ex :: es) [] p3) p4 :: rest →
      _root_.PySem.wpAt (model P w) (A.deeper (envF ⟨"__init__", qual, defArgs st, defBody st, defScope st, [("__class__", cc)], cda⟩ fI s.heap.objs.size)) (.func (defBody st) (envF ⟨"__init__", qual, defArgs st, defBody st, defScope st, [("__class__", cc)], cda⟩ fI s.heap.objs.size))
        (execs stmts (envF ⟨"__init__", qual, defArgs st, defBody st, defScope st, [("__class__", cc)], cda⟩ fI s.heap.objs.size)) (fun f s' => CR CX outer P w H s Q E (.ok (.ret (match f with | .ret v => v | _ => .none))) s')
        (ncx CX P w K mg base N ⟨"__init__", qual, defArgs st, defBody st, defScope st, [("__class__", cc)], cda⟩ fI A outer s H E).xe { s with heap := h₁, toks := s.toks + (ps.zip us).length } := fun stmts es' => by
    subst es'
    refine ks_wpAt_execs_cons (ks_wpAt_mono sup (fun f s' ⟨ef, H1, J, q⟩ => ?_) fun _ _ z => z)
    subst ef
    refine PySem.wpAt_of_wpAny (wpAny_mono (hrest.run [] s' _ H1 _ J q) (fun fl s2 hs => ?_) fun e s' hs => hs)
    cases fl with
    | ret u =>
      obtain ⟨v, σ', H', J, rv, q⟩ := hs
      exact fin J rv q
    | next =>
      obtain ⟨σ', H', J, q⟩ := hs
      exact fin (v := V.non) (u := Value.none) J rfl q
    | brk =>
      obtain ⟨_, _, _, q⟩ := hs
      exact False.elim q
    | cont =>
      obtain ⟨_, _, _, q⟩ := hs
      exact False.elim q
  exact sp2 (defBody st) hst
end GX

set_option maxRecDepth 100000
set_option maxHeartbeats 4000000
namespace GX
open PySem PySem.Spec PyProof.Rows L2
/-- behind a suite whose name goes -/
def endsA (D : Ends) (i : Nat) : Ends := { nx := fun σ' H' => D.nx (σ'.set i none) H', rt := D.rt, bk := fun σ' H' => D.bk (σ'.set i none) H', ct := fun σ' H' => D.ct (σ'.set i none) H' }
/-- what the clauses, named ones too, wish of an exception of the body, one after the other -/
def wManyA (K : PySem.W.Frag) (Wout : WX) (D : Ends) : List (Value × Option Nat × (Addr → Value → Option Addr → TS)) → WX
  | [] => Wout
  | (c, .none, ts) :: r => fun cls d σ H => ∃ b, PySem.W.exmOne K cls c = some b ∧ (b = true → ∀ a, H a = none → ts a cls d D σ H) ∧ (b = false → wManyA K Wout D r cls d σ H)
  | (c, .some i, ts) :: r => fun cls d σ H => ∃ b, PySem.W.exmOne K cls c = some b ∧ (b = true → ∀ a, H a = none → ts a cls d (endsA D i) (σ.set i (some (.ref a))) H) ∧ (b = false → wManyA K Wout D r cls d σ H)
inductive HdsA (X : Cx) : List ExceptHandler → List (Value × Option Nat × (Addr → Value → Option Addr → TS)) → Prop
  | nil : HdsA X [] []
  | plain {x : Str} {c : Value} {ts : Addr → Value → Option Addr → TS} {b₀ : Stmt} {suite : List Stmt} {np pos' : Pos} {hds : List ExceptHandler} {l : List (Value × Option Nat × (Addr → Value → Option Addr → TS))} (hc : Names X x c)
      (hsu : ∀ (a : Addr) (oe : Obj) (cls : Value) (d : Option Addr) (pn : List (Addr × Obj)), Zc cls d oe → (∃ vs, oe.data = .fields vs) → PSs (X.suite a ((a, oe) :: pn)) (b₀ :: suite) (ts a cls d)) (r : HdsA X hds l) :
      HdsA X (.ExceptHandler (some (.Name x np)) none (b₀ :: suite) pos' :: hds) ((c, .none, ts) :: l)
  | named {x n : Str} {i : Nat} {c : Value} {ts : Addr → Value → Option Addr → TS} {b₀ : Stmt} {suite : List Stmt} {np pos' : Pos} {hds : List ExceptHandler} {l : List (Value × Option Nat × (Addr → Value → Option Addr → TS))} (hc : Names X x c)
      (hi : X.N[i]? = some n) (hln : X.env.kindOf n = some .local)
      (hsu : ∀ (a : Addr) (oe : Obj) (cls : Value) (d : Option Addr) (pn : List (Addr × Obj)), Zc cls d oe → (∃ vs, oe.data = .fields vs) → PSs (X.suite a ((a, oe) :: pn)) (b₀ :: suite) (ts a cls d)) (r : HdsA X hds l) :
      HdsA X (.ExceptHandler (some (.Name x np)) (some n) (b₀ :: suite) pos' :: hds) ((c, .some i, ts) :: l)
section
variable {X : Cx} {body : List Stmt} {h₀ : ExceptHandler} {hds : List ExceptHandler} {l : List (Value × Option Nat × (Addr → Value → Option Addr → TS))} {pos : Pos} {tb : WX → TS} {Wout : WX}
theorem ps_try_manyA (hs : X.stack = X.env :: X.outer) (hf : X.env.frame = some X.env.locals) (hN : X.N.Nodup) (tk : Takes X Wout)
    (hb : ∀ (W : WX) (pn : List (Addr × Obj)) (xe : Value → Shared → Prop), Takes (X.tr pn xe) W → PassesOwn (model X.prog X.w) X.A X.env xe → PSs (X.tr pn xe) body (tb W))
    (hh : HdsA X (h₀ :: hds) l) : PS X (.Try body (h₀ :: hds) [] [] pos) (fun D σ H => tb (wManyA X.K Wout D l) D σ H) := by
  refine ⟨fun pins s σ H D I h => ?_⟩
  have ok := I.ok
  have hfr : X.A.frames = some (X.env :: X.outer) := by rw [ok.frames, hs]
  refine wpAny_Try_except ?_
  refine wpAny_mono ((hb (wManyA X.K Wout D l) (X.pn ++ pins) (fun e s₁ => wpAny (model X.prog X.w) X.A (noteFrame e X.env) (fun _ s₂ => wpAny (model X.prog X.w) X.A (setFlight e none) (fun _ s₃ =>
    wpAny (model X.prog X.w) X.A (handleBy e X.env (h₀ :: hds)) (SP X pins D) X.xe s₃) X.xe s₂) X.xe s₁) (fun u s' xx => ?_) PassesOwn.looking).run [] s σ H D (I.toTry _) h) (fun f s1 hsp => ?_) (fun e s1 he => he)
  · obtain ⟨a, B, sI, pins', σ', H', cls, d, rfl, J', nb, up, sky, na, os, ag, w⟩ := xx
    have J : Inv X pins σ' H' sI := J'.ofTry ok
    have sky' : Sky B (X.env :: X.outer) a (Zc cls d) X.env.locals s'.heap := by rw [← hs]; exact sky
    show wpAny (model X.prog X.w) X.A (noteFrame (.ref a) X.env) _ _ _
    refine Sky.land Zc.steady hfr hf sky' fun h3 fl3 up3 => ?_
    have J3 : Inv X pins σ' H' { s' with heap := h3 } := J.landed nb fl3.1 (up.trans up3) os ag
    obtain ⟨oe3, vs3, he3, hz3, hd3⟩ := fl3.there
    have notFr : ∀ {h : Heap} {o : Obj} {vs : Array Value}, h.FunFrames B (X.env :: X.outer) → h.get? a = some o → o.data = .fields vs → a ∉ frs (X.env :: X.outer) := fun {h o vs} ff e dd hm => by
      obtain ⟨_, o', e', hnf⟩ := ff.mem hm
      rw [e] at e'; cases e'
      exact hnf _ dd
    have nfr := notFr fl3.2.2.1 he3 hd3
    have nL : a ≠ X.env.locals := fun z => nfr (List.mem_filterMap.mpr ⟨X.env, List.mem_cons_self, by rw [hf, z]⟩)
    have nF : a ∉ X.fs := fun hm => by
      obtain ⟨e, he, q⟩ := List.mem_filterMap.mp hm
      exact nfr (List.mem_filterMap.mpr ⟨e, List.mem_cons_of_mem _ he, q⟩)
    have S3 := J3.suite he3 hd3 na nL nF
    have LT : PySem.W.Looks (model X.prog X.w) h3 (typeOf (.ref a)) cls := fun A Q E s k q => wpAny_typeOf_ref (k _ _ he3) (by rw [hz3.1]; exact q)
    have test : ∀ {x : Str} {c : Value} {np : Pos} {Q : Value → Shared → Prop} {E : Value → Shared → Prop}, Names X x c → Q c { s' with heap := h3 } → wpAny (model X.prog X.w) (X.A.mark (some (.ref a))) (eval (.Name x np) X.env) Q E { s' with heap := h3 } := fun {x c np Q E} hc q => by
      obtain ⟨hg, hdbg, hm | ⟨hm, hv, hnn⟩⟩ := hc
      · exact ld_glob (X := X.suite a ((a, oe3) :: (X.pn ++ pins))) S3 hg hm q hdbg
      · exact ld_blt (X := X.suite a ((a, oe3) :: (X.pn ++ pins))) S3 hg hm hv q hnn hdbg
    have go : ∀ {hds' : List ExceptHandler} {l' : List (Value × Option Nat × (Addr → Value → Option Addr → TS))}, HdsA X hds' l' → wManyA X.K Wout D l' cls d σ' H' →
        wpAny (model X.prog X.w) X.A (handleBy (.ref a) X.env hds') (SP X pins D) X.xe { s' with heap := h3 } := by
      intro hds' l' hk
      induction hk with
      | nil =>
        intro w
        refine wpAny_handleBy_nil ?_
        obtain ⟨k1, k2, k3, oe, vs, T, oT, ts', he, hz, hd, h1, hr⟩ := id fl3
        unfold PySem.passOn
        refine wpAny_bind (wpAny_field he hd h1 ?_)
        rw [if_neg (show ¬ ((Value.ref T == Value.none) = true) from by simp)]
        have fin : wpAny (model X.prog X.w) X.A (setFlight (.ref a) X.env.frame) (fun _ s4 => wpAny (model X.prog X.w) X.A (throw (.ref a) : Sem Flow) (SP X pins D) X.xe s4) X.xe { s' with heap := h3 } := by
          rw [hf]
          refine HandSPX.setFlight_upZ fl3 fun h4 hh4 up4 => wpAny_throw (tk _ _ ?_)
          exact ⟨a, B, sI, pins, σ', H', cls, d, rfl, J, nb, (up.trans up3).trans up4, .inr (.inr (by rw [hs]; exact hh4)), na, os, ag, w⟩
        first
          | exact wpAny_bind (wpAny_pure (wpAny_bind fin))
          | exact wpAny_bind fin
      | @plain x c ts b₀ suite np pos' hds2 l2 hc hsu r ih =>
        intro w
        obtain ⟨b, hb1, hyes, hno⟩ := w
        refine wpAny_handleBy_cons (codeAny_handlers_test ?_) (by intro q; cases q)
        have LM := PySem.W.exm_one (M := model X.prog X.w) (J3.kIn) LT hb1
        refine test hc (LM.here ?_)
        cases b with
        | true =>
          refine codeAny_handlers_suite ?_
          refine HandSPX.lands_againZ fl3 fun h4 fl4 up4 => ?_
          have J4 : Inv X pins σ' H' { s' with heap := h4 } := J.landed nb fl4.1 ((up.trans up3).trans up4) os ag
          obtain ⟨oe4, vs4, he4, hz4, hd4⟩ := fl4.there
          have S4 := J4.suite he4 hd4 na nL nF
          refine wpAny_mono ((hsu a oe4 cls d (X.pn ++ pins) hz4 ⟨_, hd4⟩).run [] _ _ H' _ S4 (hyes rfl a na)) (fun f s6 hsp => ?_) (fun _ _ z => False.elim z)
          cases f with
          | next =>
            obtain ⟨σ6, H6, S6, q6⟩ := hsp
            exact ⟨_, _, S6.unsuite ok, q6⟩
          | brk =>
            obtain ⟨σ6, H6, S6, q6⟩ := hsp
            exact ⟨_, _, S6.unsuite ok, q6⟩
          | cont =>
            obtain ⟨σ6, H6, S6, q6⟩ := hsp
            exact ⟨_, _, S6.unsuite ok, q6⟩
          | ret u =>
            obtain ⟨v6, σ6, H6, S6, r6, q6⟩ := hsp
            exact ⟨_, _, _, S6.unsuite ok, r6, q6⟩
        | false =>
          show wpAny _ X.A (handleBy (.ref a) X.env hds2) _ _ _
          exact ih (hno rfl)
      | @named x n i c ts b₀ suite np pos' hds2 l2 hc hi hln hsu r ih =>
        intro w
        obtain ⟨b, hb1, hyes, hno⟩ := w
        have hloc : Loc X.env.scope n := .inl hln
        refine wpAny_handleBy_cons (codeAny_handlers_test ?_) (by intro q; cases q)
        have LM := PySem.W.exm_one (M := model X.prog X.w) (J3.kIn) LT hb1
        refine test hc (LM.here ?_)
        cases b with
        | true =>
          refine codeAny_handlers_suite_as ?_
          refine HandSPX.lands_againZ fl3 fun h4 fl4 up4 => ?_
          have J4 : Inv X pins σ' H' { s' with heap := h4 } := J.landed nb fl4.1 ((up.trans up3).trans up4) os ag
          obtain ⟨oe4, vs4, he4, hz4, hd4⟩ := fl4.there
          have S4 := J4.suite he4 hd4 na nL nF
          refine store_ok (X := X.suite a ((a, oe4) :: (X.pn ++ pins))) (v := .ref a) S4 hN hi hloc rfl (fun s5 S5 => ?_) (.inr hln)
          refine wpAny_mono ((hsu a oe4 cls d (X.pn ++ pins) hz4 ⟨_, hd4⟩).run [] s5 _ H' _ S5 (hyes rfl a na)) (fun f s6 hsp => ?_) (fun _ _ z => False.elim z)
          have end_ : ∀ {σ6 : L2.St} {H6 : Hp} {Q : Shared → Prop}, Inv (X.suite a ((a, oe4) :: (X.pn ++ pins))) [] σ6 H6 s6 → (∀ s7, Inv X pins (σ6.set i none) H6 s7 → Q s7) →
              wpAny (model X.prog X.w) X.A (do bindName X.env n .none; unbindBehindTheSuite X.env n pos') (fun _ s7 => Q s7) X.xe s6 := fun {σ6 H6 Q} S6 hq => gone_ok (S6.unsuite ok) hN hi hln hq
          cases f with
          | next =>
            obtain ⟨σ6, H6, S6, q6⟩ := hsp
            exact end_ S6 fun s7 J7 => ⟨_, _, J7, q6⟩
          | brk =>
            obtain ⟨σ6, H6, S6, q6⟩ := hsp
            exact end_ S6 fun s7 J7 => ⟨_, _, J7, q6⟩
          | cont =>
            obtain ⟨σ6, H6, S6, q6⟩ := hsp
            exact end_ S6 fun s7 J7 => ⟨_, _, J7, q6⟩
          | ret u =>
            obtain ⟨v6, σ6, H6, S6, r6, q6⟩ := hsp
            exact end_ S6 fun s7 J7 => ⟨_, _, _, J7, r6, q6⟩
        | false =>
          show wpAny _ X.A (handleBy (.ref a) X.env hds2) _ _ _
          exact ih (hno rfl)
    exact go hh w
  · cases f with
    | next =>
      obtain ⟨σ', H', J', q⟩ := hsp
      exact wpAny_execs_nil ⟨σ', H', J'.ofTry ok, q⟩
    | brk =>
      obtain ⟨σ', H', J', q⟩ := hsp
      exact ⟨σ', H', J'.ofTry ok, q⟩
    | cont =>
      obtain ⟨σ', H', J', q⟩ := hsp
      exact ⟨σ', H', J'.ofTry ok, q⟩
    | ret u =>
      obtain ⟨v, σ', H', J', r, q⟩ := hsp
      exact ⟨v, σ', H', J'.ofTry ok, r, q⟩
end
end GX

set_option maxRecDepth 100000
set_option maxHeartbeats 4000000
namespace PySem
set_option maxHeartbeats 1000000 in
theorem gx_meets_enumerate_newB1 {v : Value} {o : Obj} {H : Heap → Prop} (B : Begins v o H) :
    Meets (Builtin.«enumerate.__new__» ⟨[.type "enumerate", v], []⟩) (fun _ R s => H s.heap ∧
      R (.ok (.ret (.ref (s.heap.push o).objs.size))) { s with heap := (s.heap.push o).push { cls := .type "enumerate", data := .fields #[.none, .bool false, .ref s.heap.objs.size, rawInt 0, .none, .none] } }) :=
  .of_wp fun prog w A R s h => by
    obtain ⟨hp, g, d, tk, os⟩ := s; obtain ⟨h1, h⟩ := h
    have hsub := sub_enumerate
    have q1 : ∀ {A' : Around} {E : Value → Shared → Prop} {Q : Value → Shared → Prop}, Q (.ref hp.objs.size) ⟨hp.push o, g, d, tk, os⟩ → wpAny (model prog w) A' (pyIter v) Q E ⟨hp, g, d, tk, os⟩ :=
      fun q => B.iter prog w _ _ ⟨hp, g, d, tk, os⟩ _ h1 q
    wp_walk using q1
    refine wpAny_stack_any fun st => wpAny_pure ?_
    split
    · rename_i c _ _ _ _ _
      cases (c == Value.type "enumerate")
      · wp_walk using q1
        exact ⟨_, rfl, h⟩
      · wp_walk using q1
        exact ⟨_, rfl, h⟩
    · wp_walk using q1
      exact ⟨_, rfl, h⟩
theorem gx_enum1 {prog : Program} {w : World} {A : Around} {E : Value → Shared → Prop} {s : Shared} {v : Value} {o : Obj} {H : Heap → Prop} {Q : Value → Shared → Prop} (B : Begins v o H) (h1 : H s.heap)
    (h : ∀ h', IsEnum h' (s.heap.objs.size + 1) s.heap.objs.size 0 .none → h'.get? s.heap.objs.size = some o → h'.objs.size = s.heap.objs.size + 2 →
      (∀ b o, s.heap.get? b = some o → h'.get? b = some o) → Q (.ref (s.heap.objs.size + 1)) { s with heap := h' }) :
    wpAny (model prog w) A (call (.type "enumerate") [v]) Q E s := by
  refine callType_new F.called_enumerate (by decide) (F.typeCall_enumerate_1 _) (F.newCall_enumerate_1 _) (fun obj => F.args_object_init_2 obj _) F.entry_enumerate_new
    (gx_meets_enumerate_newB1 B) ⟨h1, ?_⟩
  have hz : (s.heap.push o).objs.size = s.heap.objs.size + 1 := Heap.size_push ..
  show _ ∧ _
  rw [hz]
  have he : IsEnum ((s.heap.push o).push { cls := .type "enumerate", data := .fields #[.none, .bool false, .ref s.heap.objs.size, rawInt 0, .none, .none] }) (s.heap.objs.size + 1) s.heap.objs.size 0 .none := by
    have := Heap.get?_push_size (s.heap.push o) (o := { cls := .type "enumerate", data := .fields #[.none, .bool false, .ref s.heap.objs.size, rawInt 0, .none, .none] }) rfl
    rw [hz] at this; exact this
  refine ⟨⟨_, he, rfl⟩, h _ he (Heap.get?_push_of_some _ (Heap.get?_push_size _ B.free)) (by rw [Heap.size_push, hz]) fun b o x => Heap.get?_push_of_some _ (Heap.get?_push_of_some _ x)⟩
end PySem
namespace GX
open PySem PySem.Spec PyProof.Rows L2
/-! ### enumerate(tuple) -/
def IteT (K : PySem.W.Frag) (a : Addr) : It :=
  ⟨fun i H => ∃ (xs : List V) (x : V), SqT K H a xs ∧ xs[i]? = some x, fun i H v H' => ∃ T x, v = .ref T ∧ H T = none ∧ H' = upd H T (.tup [.int (i : Nat), x]) ∧ ∀ xs, SqT K H a xs → xs[i]? = some x, fun i H => ∃ xs : List V, SqT K H a xs ∧ xs.length = i⟩
theorem turn_enumT {P : Program} {w : World} {K : PySem.W.Frag} {elts : List Expr} {kk : Nat} {tpos : Pos} (a e it : Addr) :
    Turn P w K (.Tuple elts kk tpos) (IteT K a) [e, it] e (fun i h => (∃ old, IsEnum h e it ((i : Nat) : Int) old) ∧ h.IsTupleIter it a i ∧ e ≠ it ∧ a ≠ e ∧ a ≠ it) where
  mem := by simp
  obj := fun i h st b hb => by
    obtain ⟨⟨old, he⟩, ⟨o, ho, hc, hd⟩, _⟩ := st
    have e' : b = e ∨ b = it := by simpa using hb
    rcases e' with z | z
    · rw [z]; exact ⟨_, he, fun v q => nomatch q⟩
    · rw [z]; exact ⟨o, ho, fun v q => by rw [hd] at q; cases q⟩
  keep := fun i h h' st k => let ⟨⟨old, he⟩, hi, hne⟩ := st; ⟨⟨old, k e (by simp) _ he⟩, hi.at fun o q => k it (by simp) o q, hne⟩
  item := by
    intro X hP hw hK hc i pins s σ H E I hf st hg
    subst hP hw hK
    obtain ⟨⟨old, he⟩, hit, hne, hae, hai⟩ := st
    obtain ⟨xs, x, hq, hx⟩ := hg
    obtain ⟨its, rv, p, hz⟩ := I.tuple hq
    obtain ⟨u, hu, ru⟩ := rv.get hx
    have hel : e < s.heap.objs.size := Heap.lt_size he
    have hil : it < s.heap.objs.size := by obtain ⟨_, q, _⟩ := hit; exact Heap.lt_size q
    have D := Draws.tuple (prog := X.prog) (w := X.w) (A := X.A.in1) (show X.A.in1.handled = none from I.ok.hd hc) it a hai its.toArray
    have hlt : i < its.toArray.size := by
      rcases Nat.lt_or_ge i its.toArray.size with z | z
      · exact z
      · have z' : its.length ≤ i := by simpa using z
        rw [List.getElem?_eq_none z'] at hu
        cases hu
    refine wpAny_pyNext_enum_itemD D he ⟨hit, (show s.heap.IsTuple a its.toArray from p)⟩ hlt hne (by simp [hne, Ne.symm hae]) fun x1 h' tk hx1 ho hst hT hsz hk => ?_
    have ex1 : x1 = u := by
      have q : its[i]? = some x1 := by simpa using hx1
      rw [hu] at q
      exact (Option.some.inj q).symm
    subst ex1
    refine ⟨_, rfl, wpAny_letOwnedTupleGo_enum (s := { s with heap := h', toks := tk + 1 }) ho fun h'' he' sb => ?_⟩
    have hT2 : h''.get? s.heap.objs.size = some { cls := .type "tuple", data := .seq #[.int i tk, x1] } := (sb.2 _ (Nat.ne_of_gt hel)).trans hT
    have new : ObjOk X.prog X.w (upd H s.heap.objs.size (.tup [.int (i : Nat), x])) h'' s.heap.objs.size (.tup [.int (i : Nat), x]) :=
      ⟨by show 2 ≤ sizeLine; decide, [.int i tk, x1], .cons ⟨_, rfl⟩ (.cons ru .nil), ⟨_, hT2, rfl, _, rfl⟩⟩
    have I1 : Inv X pins σ (upd H s.heap.objs.size (.tup [.int (i : Nat), x])) { s with heap := h'', toks := tk + 1 } :=
      I.turnedNew (ch := [e, it]) (fun b ob hb q => (sb.2 b (fun z => hb (by simp [z]))).trans (hk b ob (fun z => hb (by simp [z])) (fun z => hb (by simp [z])) q)) hf (Nat.le_refl _) new
    refine ⟨.ref s.heap.objs.size, _, I1, rfl, ⟨_, x, rfl, I.hok.fresh (Nat.le_refl _), rfl, fun ys hy => by rw [I.tuple_inj hy hq]; exact hx⟩, ⟨⟨x1, ?_⟩, hst.1.at fun o q => (sb.2 it (Ne.symm hne)).trans q, hne, hae, hai⟩, fun b hb => ?_⟩
    · have e1 : ((i + 1 : Nat) : Int) = (i : Int) + 1 := by omega
      rw [e1]; exact he'
    · have hb' : b < s.heap.objs.size := by
        have e' : b = e ∨ b = it := by simpa using hb
        rcases e' with z | z
        · rw [z]; exact hel
        · rw [z]; exact hil
      rw [upd_ne (Nat.ne_of_lt hb')]
      exact (hf b hb).1
  done := by
    intro X hP hw hK hc i pins s σ H E I hf st hg
    subst hP hw hK
    obtain ⟨⟨old, he⟩, hit, hne, hae, hai⟩ := st
    obtain ⟨xs, hq, hx⟩ := hg
    obtain ⟨its, rv, p, hz⟩ := I.tuple hq
    obtain ⟨f0, f1, f2, f3, f4, f5⟩ := hf it (by simp)
    have hl := rv.length
    have D := Draws.tuple (prog := X.prog) (w := X.w) (A := X.A.in1) (show X.A.in1.handled = none from I.ok.hd hc) it a hai its.toArray
    have e0 : its.toArray.size = i := by simp; omega
    exact wpAny_pyNext_enum_endD D he ⟨by rw [e0]; exact hit, (show s.heap.IsTuple a its.toArray from p)⟩ fun h' eb => ⟨rfl, I.turned (t' := s.toks) (fun b o hb q => eb b o hb q) f0 f1 f3 f4 f5⟩
  self := fun A i s Q E st h => let ⟨⟨_, he⟩, _⟩ := st; wpAny_pyIter_enum he h
/-- enumerate(list or tuple) -/
def iEnumA (K : PySem.W.Frag) (ta : TA) : TI := fun σ H R => ta σ H fun vs H1 => ∃ a xs, vs = [.ref a] ∧ ((SqL K H1 a xs ∧ R (Ite K a) H1) ∨ (SqT K H1 a xs ∧ R (IteT K a) H1))
theorem pi_enumA {X : Cx} {e : Expr} {ta : TA} {p pos tpos : Pos} {elts : List Expr} {kk : Nat} (hg : Gl X "enumerate") (hm : X.mg "enumerate" = none) (ha : PA X [e] ta) (hs : starEach [e] X.env = [(false, eval e X.env)] := by rfl) :
    PI X (.Tuple elts kk tpos) (.Call (.Name "enumerate" p) [e] [] pos) (iEnumA X.K ta) := by
  refine ⟨fun pins s σ H R I h => ?_⟩
  refine Call_ (ld_blt I hg hm boot_enumerate (PyProof.Rows.callWith_type1 (thn (ha.run pos pins s σ H _ I h) fun us s1 ⟨vs, H1, I1, r1, q1⟩ => ?_) hs rfl))
  obtain ⟨a, xs, ex, q⟩ := q1
  subst ex
  cases r1 with
  | cons r rr =>
    cases rr
    cases r
    have fr : ∀ b, b = s1.heap.objs.size + 1 ∨ b = s1.heap.objs.size → FpOk X pins H1 b := fun b e' => by
      have hle : s1.heap.objs.size ≤ b := by
        rcases e' with z | z
        · rw [z]; exact Nat.le_add_right _ _
        · rw [z]; exact Nat.le_refl _
      exact I1.fpOk hle (I1.hok.fresh hle)
    rcases q with ⟨hq, q⟩ | ⟨hq, q⟩
    · obtain ⟨its, rv, p', hz⟩ := I1.list hq
      refine call_enumerate_list p'.isList fun h' he hit hsz hk => wpAny_pyIter_enum he ?_
      have I2 : Inv X pins σ H1 { s1 with heap := h' } := I1.kept (t' := s1.toks) hk
      exact ⟨s1.heap.objs.size + 1, [s1.heap.objs.size + 1, s1.heap.objs.size], _, _, H1, rfl, I2, turn_enum a (s1.heap.objs.size + 1) s1.heap.objs.size, ⟨⟨.none, he⟩, hit, Nat.succ_ne_self _⟩, fun b hb => fr b (by simpa using hb), q⟩
    · obtain ⟨its, rv, p', hz⟩ := I1.tuple hq
      have hal := p'.lt
      refine gx_enum1 (begins_tuple a its.toArray) (show s1.heap.IsTuple a its.toArray from p') fun h' he hit hsz hk => wpAny_pyIter_enum he ?_
      have I2 : Inv X pins σ H1 { s1 with heap := h' } := I1.kept (t' := s1.toks) hk
      exact ⟨s1.heap.objs.size + 1, [s1.heap.objs.size + 1, s1.heap.objs.size], _, _, H1, rfl, I2, turn_enumT a (s1.heap.objs.size + 1) s1.heap.objs.size, ⟨⟨.none, he⟩, ⟨_, hit, rfl, rfl⟩, Nat.succ_ne_self _, Nat.ne_of_lt (Nat.lt_succ_of_lt hal), Nat.ne_of_lt hal⟩, fun b hb => fr b (by simpa using hb), q⟩
/-! ### range(n) as a value; a walk of it -/
theorem cr_range1 {X : Cx} : CallR X (.type "range") (fun vs H Q => ∃ j, vs = [V.int j] ∧ ∀ p, H p = none → Q (.ref p) (upd H p (.rng 0 j))) := by
  intro pins s σ H vs us Q I r h
  obtain ⟨j, rfl, q⟩ := h
  obtain ⟨u1, rfl, ri⟩ := vals1 r
  obtain ⟨t, rfl⟩ := ri
  refine call_range_1 ⟨.ref s.heap.objs.size, upd H s.heap.objs.size (.rng 0 j), I.laid (t' := s.toks + 2) (fun b o e => Heap.get?_push_of_some _ e) (Nat.le_refl _) ?_, rfl, q _ (I.hok.fresh (Nat.le_refl _))⟩
  exact ⟨s.toks, t, s.toks + 1, Heap.get?_push_size _ rfl⟩
/-- a range that stands in H, walked -/
def iRngO (tl : TE) : TI := fun σ H R => tl σ H fun x H1 => ∃ a lo hi, x = .ref a ∧ H1 a = some (.rng lo hi) ∧ (-(2 ^ 62) ≤ lo ∧ lo < 2 ^ 62 ∧ -(2 ^ 62) ≤ hi ∧ hi < 2 ^ 62) ∧ R (Itr lo (hi - lo).toNat) H1
theorem pi_rngO {X : Cx} {tg l : Expr} {tl : TE} (hl : PE X l tl) : PI X tg l (iRngO tl) := by
  refine ⟨fun pins s σ H R I h => ?_⟩
  refine thn (hl.run pins s σ H _ I h) fun v s1 ⟨x, H1, I1, r1, q1⟩ => ?_
  obtain ⟨a, lo, hi, e, ha, ⟨b1, b2, b3, b4⟩, q⟩ := q1
  subst e
  cases r1
  obtain ⟨t, u, v, ho⟩ := (show ∃ t u v, s1.heap.get? a = some { cls := .type "range", data := .fields #[.int lo t, .int hi u, .int 1 v] } from I1.hok a _ ha)
  refine wpAny_pyIter_range ho (small_one b1 b2 b3 b4) ?_
  refine ⟨s1.heap.objs.size, [s1.heap.objs.size], _, _, H1, rfl, I1.kept (t' := s1.toks) fun b o e => Heap.get?_push_of_some _ e, turn_range _ lo (hi - lo).toNat, ?_, fun b hb => ?_, q⟩
  · have e1 : lo + ((0 : Nat) : Int) * 1 = lo := by simp
    have e2 : (((hi - lo).toNat : Nat) : Int) - ((0 : Nat) : Int) = Builtin.Range.rangeSize lo hi 1 := by rw [rangeSize_one]; split <;> omega
    show IsRangeIter _ _ (lo + ((0 : Nat) : Int) * 1) ((((hi - lo).toNat : Nat) : Int) - ((0 : Nat) : Int)) 1
    rw [e1, e2]
    exact Heap.get?_push_size _ rfl
  · have e : b = s1.heap.objs.size := by simpa using hb
    subst e
    exact I1.fpOk (Nat.le_refl _) (I1.hok.fresh (Nat.le_refl _))
end GX
namespace PySem
open SrtO
section
open PyProof.Rows
variable {prog : Program} {w : World} {A : Around} {E : Value → Shared → Prop} {s : Shared}
theorem gx_collect_tuple {l : Addr} {vs : List Value} {Q : List Value → Shared → Prop} (hl : s.heap.IsTuple l vs.toArray)
    (h : Q vs { s with heap := (s.heap.push (seqObj "list" #[] 0)).update s.heap.objs.size (Obj.mapSeq (· ++ vs.toArray)) }) (hsz : vs.length ≤ sizeLine) :
    wpAny (model prog w) A (collect (.ref l)) Q E s := by
  obtain ⟨o, ho, hc, n, hd⟩ := id hl
  unfold collect
  refine wpAny_bind (wpAny_runValue (codeAny_builtin entry_proto_collect' ?_))
  show wpAny _ _ (do again (.builtin "list.__iadd__" ⟨[← newList [], .ref l], []⟩)) _ _ s
  refine wpAny_bind (wpAny_newList (wpAny_pure ⟨Code.quiet_builtin _ (by decide +kernel), codeAny_builtin entry_list_iadd' ?_⟩))
  show wpAny _ _ (Builtin.List.listExtendWith (.ref s.heap.objs.size) (.ref l) (.ref s.heap.objs.size)) _ _ { s with heap := s.heap.push (seqObj "list" #[] 0) }
  unfold Builtin.List.listExtendWith
  have ho' : (s.heap.push (seqObj "list" #[] 0)).get? l = some o := Heap.get?_push_of_some _ ho
  refine wpAny_bind (wpAny_typeOf (T := "tuple") ⟨o, ho', hc⟩ ?_)
  have ht : (Value.type "tuple" == Value.type "tuple") = true := by rfl
  rw [if_pos (by rw [ht]; simp)]
  refine wpAny_bind (listItems_at ho' hd ?_)
  refine wpAny_bind (listItems_at (xs := #[]) (n := 0) (Heap.get?_push_size _ rfl) rfl ?_)
  rw [if_neg (by simp)]
  refine wpAny_bind (listUpdate_at (xs := #[]) (n := 0) (Heap.get?_push_size _ rfl) rfl ?_ (Nat.zero_le _) (by show (#[] ++ vs.toArray).size ≤ sizeLine + 1; simp only [Array.size_append, List.size_toArray, List.length_nil]; omega))
  refine wpAny_pure ?_
  show wpAny (model prog w) A (do
      let o ← load s.heap.objs.size
      match o.data with
      | .seq xs _ => pure xs.toList
      | _ => unsupported "internal:collect") Q E { s with heap := (s.heap.push (seqObj "list" #[] 0)).update s.heap.objs.size (Obj.mapSeq (· ++ vs.toArray)) }
  refine wpAny_bind (wpAny_load (get?_update_seq (Heap.get?_push_size _ rfl) _) ?_)
  show wpAny _ _ (pure ((#[] : Array Value) ++ vs.toArray).toList) Q E _
  rw [show ((#[] : Array Value) ++ vs.toArray).toList = vs by simp]
  exact wpAny_pure h
theorem gx_sorted_ordT {l : Addr} {vs : List Value} {ltv : Value → Value → Bool} {Q : Value → Shared → Prop} (O : Swo ltv) (hl : s.heap.IsTuple l vs.toArray) (hz : vs.length ≤ sizeLine)
    (hS : 2 ≤ vs.length → ∀ (h₁ : Heap) (a : Addr), h₁.get? a = some (seqObj "list" vs.toArray 0) → (∀ b o, s.heap.get? b = some o → b ≠ a ∧ h₁.get? b = some o) → SortableO prog w A.in1.in1 { s with heap := h₁ } a vs ltv)
    (h : ∀ out : List Value, Srtd ltv out → Stb ltv out vs → Q (.ref (s.heap.objs.size + 1)) { s with heap := sortedAll s.heap vs out.toArray }) :
    wpAny (model prog w) A (call (.builtin "sorted") [.ref l]) Q E s := by
  refine Calls.call_function_entry kind_sorted plain_sorted entry_sorted (args_sorted1 _) ?_
  unfold Builtin.«sorted»
  refine wpAny_bind (m := checkCount "sorted" 1 1 _) (wpAny_pure ?_)
  refine wpAny_bind (gx_collect_tuple hl ?_ hz)
  refine wpAny_bind (wpAny_newList ?_ hz)
  have hsz : ((s.heap.push (seqObj "list" #[] 0)).update s.heap.objs.size (Obj.mapSeq (· ++ vs.toArray))).objs.size = s.heap.objs.size + 1 := by
    rw [Heap.size_update, size_push']
  have hoL : (((s.heap.push (seqObj "list" #[] 0)).update s.heap.objs.size (Obj.mapSeq (· ++ vs.toArray))).push (seqObj "list" vs.toArray 0)).get? (s.heap.objs.size + 1) = some (seqObj "list" vs.toArray 0) := by
    rw [← hsz]; exact Heap.get?_push_size _ rfl
  have keep : ∀ b o, s.heap.get? b = some o → b ≠ s.heap.objs.size + 1 ∧ (((s.heap.push (seqObj "list" #[] 0)).update s.heap.objs.size (Obj.mapSeq (· ++ vs.toArray))).push (seqObj "list" vs.toArray 0)).get? b = some o := fun b o q => by
    have hlt : b < s.heap.objs.size := Heap.lt_size q
    refine ⟨Nat.ne_of_lt (Nat.lt_succ_of_lt hlt), Heap.get?_push_of_some _ ?_⟩
    rw [Heap.get?_update_ne _ _ _ _ (Nat.ne_of_lt hlt)]
    exact Heap.get?_push_of_some _ q
  show wpAny _ _ _ _ _ { s with heap := ((s.heap.push (seqObj "list" #[] 0)).update s.heap.objs.size (Obj.mapSeq (· ++ vs.toArray))).push (seqObj "list" vs.toArray 0) }
  rw [hsz]
  refine wpAny_bind (wpAny_holding (wpAny_call_entry slot_list_sort ⟨_, hoL, rfl⟩ entry_list_sort (list_sort_ord O hoL hz (fun h2 => hS h2 _ _ hoL keep) fun out hs hb => ⟨_, rfl, ?_⟩) (args_list_sort _)))
  exact wpAny_pure ⟨_, rfl, h out hs hb⟩
end
end PySem
namespace GX
open PySem PySem.Spec PyProof.Rows L2
/-- sorted(list or tuple of ints), any number of them -/
def rSortedIA (K : PySem.W.Frag) : List V → Hp → VK → Prop := fun vs H Q => ∃ (a : Addr) (ns : List Int), vs = [V.ref a] ∧ (SqL K H a (ns.map V.int) ∨ SqT K H a (ns.map V.int)) ∧
  ∀ (ns' : List Int) (p : Addr), ns'.Perm ns → ns'.Pairwise (· ≤ ·) → H p = none → Q (.ref p) (upd H p (.lst (ns'.map V.int)))
theorem cr_sortedIA {X : Cx} : CallR X (.builtin "sorted") (rSortedIA X.K) := by
  intro pins s σ H vs us Q I r h
  obtain ⟨a, ns, rfl, hs, q⟩ := h
  rcases hs with hs | hs
  · exact cr_sortedI pins s σ H _ us Q I r ⟨a, ns, rfl, hs, q⟩
  · obtain ⟨its, rv, hl, hz⟩ := I.tuple hs
    rw [Vals.ref1 r]
    have hi := rv.ints
    refine gx_sorted_ordT SrtO.swo_int (show s.heap.IsTuple a its.toArray from hl) (by rw [← rv.length]; exact hz) (fun h2 h₁ a' _ _ => SrtO.ints_sortable hi h2) fun out h1 h2 => ?_
    obtain ⟨k1, k2, k3⟩ := SrtO.ints_out hi h1 h2
    obtain ⟨ep, he'⟩ := PyProof.Rows.sortedAll_at s.heap its out.toArray
    have hlen : ((out.map SrtO.iv).map V.int).length ≤ sizeLine := by
      rw [List.length_map, k2.length_eq]
      rw [List.length_map] at hz
      exact hz
    exact ⟨.ref _, upd H (s.heap.objs.size + 1) (.lst ((out.map SrtO.iv).map V.int)), I.laid (t' := s.toks) (fun _ _ => PyProof.Rows.sortedAll_old) (Nat.le_succ _) ⟨hlen, out, ep, vals_of_ints k1, he'⟩, rfl, q _ _ k2 k3 (I.hok.fresh (Nat.le_succ _))⟩
end GX

set_option maxRecDepth 100000
set_option maxHeartbeats 4000000
namespace K7
open PySem PySem.Spec PyProof.Rows L2 GX
def topS (i : Nat) : Stmt := PySem.Challenge.pw_guardrungs_k07_least_swaps.main.body.getD i (.Pass ⟨0, 0, 0, 0⟩)
abbrev sBook : Stmt := inClass (topS 2) 0
abbrev sNum : Stmt := inClass (topS 3) 0
abbrev sMany : Stmt := inClass (topS 4) 0
abbrev sWhole : Stmt := topS 6
abbrev sListed : Stmt := topS 7
abbrev sOrder : Stmt := topS 8
abbrev sName : Stmt := topS 13
abbrev sCheck : Stmt := topS 15
abbrev sRung : Stmt := topS 16
abbrev sCkOrder : Stmt := topS 17
abbrev sCkOrders : Stmt := topS 18
abbrev sTouch : Stmt := topS 19
abbrev sTouching : Stmt := topS 20
abbrev sPlaces : Stmt := topS 21
abbrev sDirs : Stmt := topS 22
abbrev sDirections : Stmt := topS 23
abbrev sSame : Stmt := topS 24
abbrev sSwaps : Stmt := topS 25
abbrev sLNums : Stmt := topS 27
abbrev sLDraw : Stmt := topS 28
abbrev sLInt : Stmt := topS 29
abbrev sLPool : Stmt := topS 30
abbrev sLFrame : Stmt := topS 31
abbrev sLTouch : Stmt := topS 32
abbrev sLOrder : Stmt := topS 33
abbrev sLLed : Stmt := topS 34
abbrev sLUnlike : Stmt := topS 35
abbrev sLDirs : Stmt := topS 36
abbrev sLRight : Stmt := topS 37
abbrev sLWord : Stmt := topS 38
abbrev sLRefused : Stmt := topS 39
abbrev sLaw : Stmt := topS 40
theorem scWhole : FnScope ["value", "least", "most"] ["value", "least", "most"] (defScope sWhole) := ⟨rfl, rfl, rfl, by decide +kernel, rfl, by decide +kernel, by decide +kernel⟩
theorem scListed : FnScope ["value"] ["value"] (defScope sListed) := ⟨rfl, rfl, rfl, by decide +kernel, rfl, by decide +kernel, by decide +kernel⟩
theorem scOrder : FnScope ["order", "many", "place"] ["order", "many"] (defScope sOrder) := ⟨rfl, rfl, rfl, by decide +kernel, rfl, by decide +kernel, by decide +kernel⟩
theorem scName : FnScope ["value", "sign"] ["value"] (defScope sName) := ⟨rfl, rfl, rfl, by decide +kernel, rfl, by decide +kernel, by decide +kernel⟩
theorem scCheck : FnScope ["frame", "written", "place", "rung"] ["frame"] (defScope sCheck) := ⟨rfl, rfl, rfl, by decide +kernel, rfl, by decide +kernel, by decide +kernel⟩
theorem scRung : FnScope ["rung", "reads", "name", "read", "ahead", "behind"] ["rung"] (defScope sRung) := ⟨rfl, rfl, rfl, by decide +kernel, rfl, by decide +kernel, by decide +kernel⟩
theorem scCkOrder : FnScope ["frame", "order", "word"] ["frame", "order", "word"] (defScope sCkOrder) := ⟨rfl, rfl, rfl, by decide +kernel, rfl, by decide +kernel, by decide +kernel⟩
theorem scCkOrders : FnScope ["frame", "order", "other"] ["frame", "order", "other"] (defScope sCkOrders) := ⟨rfl, rfl, rfl, by decide +kernel, rfl, by decide +kernel, by decide +kernel⟩
theorem scTouch : FnScope ["rung", "other"] ["rung", "other"] (defScope sTouch) := ⟨rfl, rfl, rfl, by decide +kernel, rfl, by decide +kernel, by decide +kernel⟩
theorem scTouching : FnScope ["frame", "places", "j", "i"] ["frame"] (defScope sTouching) := ⟨rfl, rfl, rfl, by decide +kernel, rfl, by decide +kernel, by decide +kernel⟩
theorem scPlaces : FnScope ["order", "at", "place"] ["order"] (defScope sPlaces) := ⟨rfl, rfl, rfl, by decide +kernel, rfl, by decide +kernel, by decide +kernel⟩
theorem scDirs : FnScope ["frame", "order", "stands", "i", "j"] ["frame", "order"] (defScope sDirs) := ⟨rfl, rfl, rfl, by decide +kernel, rfl, by decide +kernel, by decide +kernel⟩
theorem scDirections : FnScope ["frame", "order"] ["frame", "order"] (defScope sDirections) := ⟨rfl, rfl, rfl, by decide +kernel, rfl, by decide +kernel, by decide +kernel⟩
theorem scSame : FnScope ["frame", "order", "other"] ["frame", "order", "other"] (defScope sSame) := ⟨rfl, rfl, rfl, by decide +kernel, rfl, by decide +kernel, by decide +kernel⟩
theorem scSwaps : FnScope ["frame", "order", "other", "goal", "stands", "told", "end", "at", "place"] ["frame", "order", "other"] (defScope sSwaps) := ⟨rfl, rfl, rfl, by decide +kernel, rfl, by decide +kernel, by decide +kernel⟩
end K7

set_option maxRecDepth 100000
set_option maxHeartbeats 4000000
namespace K7
open PySem PySem.Spec PyProof.Rows L2 GX
/-- the built-in names are still the built-ins -/
structure Bl (mg : Str → Option Value) : Prop where
  isi : mg "isinstance" = none
  int : mg "int" = none
  bool : mg "bool" = none
  str : mg "str" = none
  list : mg "list" = none
  tuple : mg "tuple" = none
  len : mg "len" = none
  all : mg "all" = none
  sorted : mg "sorted" = none
  range : mg "range" = none
  enum : mg "enumerate" = none
  zip : mg "zip" = none
  min : mg "min" = none
theorem same_upd {H : Hp} {p : Addr} {o : HO} (h : H p = none) : Same H (upd H p o) := fun b x e => by
  rw [upd_ne (ne_of_none e h)]
  exact e
/-- a list or a tuple of ours -/
def Sq (H : Hp) (a : Addr) (xs : List V) : Prop := H a = some (.lst xs) ∨ H a = some (.tup xs)
theorem Sq.same {H H' : Hp} {a : Addr} {xs : List V} (s : Same H H') (h : Sq H a xs) : Sq H' a xs := h.elim (fun z => .inl (s _ _ z)) fun z => .inr (s _ _ z)
theorem sqL {K : PySem.W.Frag} {H : Hp} {a : Addr} {xs : List V} (h : H a = some (.lst xs)) : SqL K H a xs := .inl (.inl h)
theorem sqT {K : PySem.W.Frag} {H : Hp} {a : Addr} {xs : List V} (h : H a = some (.tup xs)) : SqT K H a xs := .inl (.inl h)
theorem Sq.lt {K : PySem.W.Frag} {H : Hp} {a : Addr} {xs : List V} (h : Sq H a xs) : SqL K H a xs ∨ SqT K H a xs := h.elim (fun z => .inl (sqL z)) fun z => .inr (sqT z)
theorem Sq.ty {K : PySem.W.Frag} {H : Hp} {a : Addr} {xs : List V} (h : Sq H a xs) : TyX K H (.ref a) (.type "list") ∨ TyX K H (.ref a) (.type "tuple") := h.elim (fun z => .inl (.base (.lst z))) fun z => .inr (.base (.tup z))
theorem new_ne {H : Hp} {a p : Addr} {o : HO} (h : H a = some o) (np : H p = none) : a ≠ p := ne_of_none h np
/-- a walk of a list or a tuple -/
def iSeq (K : PySem.W.Frag) (tl : TE) : TI := fun σ H R => tl σ H fun x H1 => ∃ a xs, x = .ref a ∧ ((SqL K H1 a xs ∧ R (Itl K a) H1) ∨ (SqT K H1 a xs ∧ R (Itt K a) H1))
theorem pi_seq {X : Cx} {tg l : Expr} {tl : TE} (hl : PE X l tl) : PI X tg l (iSeq X.K tl) := by
  refine ⟨fun pins s σ H R I h => ?_⟩
  refine thn (hl.run pins s σ H _ I h) fun v s1 ⟨x, H1, I1, r1, q1⟩ => ?_
  obtain ⟨a, xs, e, q⟩ := q1
  subst e
  cases r1
  rcases q with ⟨hq, q⟩ | ⟨hq, q⟩
  · obtain ⟨its, rv, p, hz⟩ := I1.list hq
    refine wpAny_pyIter_list p.isList ?_
    refine ⟨s1.heap.objs.size, [s1.heap.objs.size], _, _, H1, rfl, I1.kept (t' := s1.toks) fun b o e => Heap.get?_push_of_some _ e, turn_list a _, ⟨_, Heap.get?_push_size _ rfl, rfl, rfl⟩, fun b hb => ?_, q⟩
    have e : b = s1.heap.objs.size := by simpa using hb
    subst e
    exact I1.fpOk (Nat.le_refl _) (I1.hok.fresh (Nat.le_refl _))
  · obtain ⟨its, rv, p, hz⟩ := I1.tuple hq
    refine wpAny_pyIter_tuple (show s1.heap.IsTuple a its.toArray from p) ?_
    refine ⟨s1.heap.objs.size, [s1.heap.objs.size], _, _, H1, rfl, I1.kept (t' := s1.toks) fun b o e => Heap.get?_push_of_some _ e, turn_tuple a _, ⟨_, Heap.get?_push_size _ rfl, rfl, rfl⟩, fun b hb => ?_, q⟩
    have e : b = s1.heap.objs.size := by simpa using hb
    subst e
    exact I1.fpOk (Nat.le_refl _) (I1.hok.fresh (Nat.le_refl _))
section
variable {P : Program} {w : World} {K : PySem.W.Frag} {mg : Str → Option Value} {base : Heap}
/-! ### is_whole -/
def wholeV (l m : Int) : V → Bool
  | .int i => decide (l ≤ i) && decide (i ≤ m)
  | _ => false
def spWhole : Sp := fun vs H Q _ => ∃ (x : V) (l m : Int), vs = [x, .int l, .int m] ∧ ((∃ i, x = .int i) ∨ ∃ b, x = .bl b) ∧ Q (.bl (wholeV l m x)) H
theorem ok_whole {f : Addr} {fd : FuncData} {k : Nat} (F : Fun K "is_whole" "is_whole" sWhole f fd) (B : Bl mg) : FnOk P w K mg base CX0 (k + 1) f fd ["value", "least", "most"] spWhole := by
  refine F.ok scWhole (fun vs H Q E h => ?_) (fun cdv A outer s H vs Q E hr h => ?_)
  · obtain ⟨x, l, m, rfl, _⟩ := h
    rfl
  · obtain ⟨x, l, m, rfl, hx, q⟩ := h
    refine ⟨_, pss_cons (ps_if (PW.pt (pw_or (pt_not (pt_val (pe_callB call_isi (by rfl) B.isi (by decide +kernel) (pa_cons (pv 0) (pa_cons (pe_bltn (v := .ty "int") (u := .type "int") (by rfl) B.int (by decide +kernel) rfl) pa_nil)))))
        (pw_or1 (pt_val (pe_callB call_isi (by rfl) B.isi (by decide +kernel) (pa_cons (pv 0) (pa_cons (pe_bltn (v := .ty "bool") (u := .type "bool") (by rfl) B.bool (by decide +kernel) rfl) pa_nil))))))) (pss_one (ps_ret pe_bl)) pss_nil)
      (pss_one (ps_ret (pe_and (pe_cmpR op_le (pv 1) (pv 0) (nomark _)) (pe_one (pe_or (pe_cmpR op_isN (pv 2) pe_non (nomark _)) (pe_one (pe_cmpR op_le (pv 0) (pv 2) (nomark _)))))))), ?_⟩
    rcases hx with ⟨i, rfl⟩ | ⟨b, rfl⟩
    · refine ⟨_, rfl, _, _, .type "int", _, true, rfl, .ty "int", .base (.int i), kit_ty (by decide +kernel), true, rfl, iteF ?_⟩
      refine ⟨_, rfl, _, _, .type "int", _, false, rfl, .ty "bool", .base (.int i), kit_ty (by decide +kernel), false, rfl, iteF ?_⟩
      refine ⟨_, rfl, _, rfl, _, _, rfl, rfl, _, rfl, ?_⟩
      have q : Q (.bl (decide (l ≤ i) && decide (i ≤ m))) H := q
      by_cases h1 : l ≤ i
      · rw [decide_eq_true h1] at q ⊢
        refine iteT ⟨_, rfl, rfl, false, rfl, iteF ⟨_, rfl, _, rfl, _, _, rfl, rfl, ?_⟩⟩
        rw [Bool.true_and] at q
        exact q
      · rw [decide_eq_false h1] at q ⊢
        exact iteF q
    · refine ⟨_, rfl, _, _, .type "bool", _, true, rfl, .ty "int", .base (.bl b), kit_ty (by decide +kernel), true, rfl, iteF ?_⟩
      refine ⟨_, rfl, _, _, .type "bool", _, true, rfl, .ty "bool", .base (.bl b), kit_ty (by decide +kernel), true, rfl, iteT q⟩
/-! ### is_listed -/
/-- what is no list and no tuple -/
def Scal (x : V) : Prop := x = .non ∨ (∃ i, x = .int i) ∨ ∃ z, x = .str z
def spListed : Sp := fun vs H Q _ => ∃ x : V, vs = [x] ∧ ((∃ a xs, x = .ref a ∧ Sq H a xs ∧ ∀ H', Same H H' → Q (.bl true) H') ∨ (Scal x ∧ ∀ H', Same H H' → Q (.bl false) H'))
theorem ok_listed {f : Addr} {fd : FuncData} {k : Nat} (F : Fun K "is_listed" "is_listed" sListed f fd) (B : Bl mg) : FnOk P w K mg base CX0 (k + 1) f fd ["value"] spListed := by
  refine F.ok scListed (fun vs H Q E h => ?_) (fun cdv A outer s H vs Q E hr h => ?_)
  · obtain ⟨x, rfl, _⟩ := h
    rfl
  · obtain ⟨x, rfl, hx⟩ := h
    refine ⟨_, pss_one (ps_ret (pe_callB call_isiT (by rfl) B.isi (by decide +kernel) (pa_cons (pv 0) (pa_cons (pe_tup (pa_cons (pe_bltn (v := .ty "list") (u := .type "list") (by rfl) B.list (by decide +kernel) rfl)
      (pa_cons (pe_bltn (v := .ty "tuple") (u := .type "tuple") (by rfl) B.tuple (by decide +kernel) rfl) pa_nil))) pa_nil)))), ?_⟩
    refine ⟨x, rfl, by show 2 ≤ sizeLine; decide, fun p np => ?_⟩
    have s1 : Same H (upd H p (.tup [.ty "list", .ty "tuple"])) := same_upd np
    have cl : Paired ClsV [.ty "list", .ty "tuple"] [.type "list", .type "tuple"] := .cons (.ty "list") (.cons (.ty "tuple") .nil)
    rcases hx with ⟨a, xs, rfl, hs, q⟩ | ⟨hs, q⟩
    · rcases hs with hs | hs
      · exact ⟨_, p, _, .type "list", _, true, rfl, upd_same, cl, .base (.lst (s1 _ _ hs)), kitAny_cons (b := true) (kit_ty (by decide +kernel)) (fun z => by cases z) (fun _ => rfl), q _ s1⟩
      · exact ⟨_, p, _, .type "tuple", _, true, rfl, upd_same, cl, .base (.tup (s1 _ _ hs)), kitAny_cons (b := false) (kit_ty (by decide +kernel)) (fun _ => kitAny_cons (b := true) (kit_ty (by decide +kernel)) (fun z => by cases z) (fun _ => rfl)) (fun z => by cases z), q _ s1⟩
    · rcases hs with rfl | ⟨i, rfl⟩ | ⟨z, rfl⟩
      · exact ⟨_, p, _, .type "NoneType", _, false, rfl, upd_same, cl, .base .non, kitAny_cons (b := false) (kit_ty (by decide +kernel)) (fun _ => kitAny_cons (b := false) (kit_ty (by decide +kernel)) (fun _ => kitAny_nil) (fun z => by cases z)) (fun z => by cases z), q _ s1⟩
      · exact ⟨_, p, _, .type "int", _, false, rfl, upd_same, cl, .base (.int i), kitAny_cons (b := false) (kit_ty (by decide +kernel)) (fun _ => kitAny_cons (b := false) (kit_ty (by decide +kernel)) (fun _ => kitAny_nil) (fun z => by cases z)) (fun z => by cases z), q _ s1⟩
      · exact ⟨_, p, _, .type "str", _, false, rfl, upd_same, cl, .base (.str z), kitAny_cons (b := false) (kit_ty (by decide +kernel)) (fun _ => kitAny_cons (b := false) (kit_ty (by decide +kernel)) (fun _ => kitAny_nil) (fun z => by cases z)) (fun z => by cases z), q _ s1⟩
end
end K7

set_option maxRecDepth 100000
set_option maxHeartbeats 4000000
namespace K7
open PySem PySem.Spec PyProof.Rows L2 GX
/-! ### comprehensions whose turns change nothing of what was -/
theorem lcGen {J : It} {n : Nat} {g : TG} {tt : TT} {te : TE} {vs : List Nat} {σ : L2.St} {H1 : Hp} {D : Addr} {Qd : Hp → Prop} (keep : Nat → Bool) (vals : Nat → V) (nD : H1 D = none) (hn : n ≤ 4000)
    (go : ∀ i H, i < n → Same H1 H → J.go i H) (stop : ∀ H, Same H1 H → J.stop n H)
    (turn : ∀ i x H H' (Qk : VK) (Qn : Hp → Prop), i < n → Same H1 H → J.yld i H x H' → (∀ H4, Same H H4 → keep i = true → Qk (vals i) H4) → (∀ H4, Same H H4 → keep i = false → Qn H4) →
      g x (wipe σ vs) H' fun σ2 H2 => wipe σ2 vs = wipe σ vs ∧ tt σ2 H2 fun b H3 => if b = true then te σ2 H3 Qk else Qn H3)
    (done : ∀ H, Same H1 H → H D = some (.lst (((List.range n).filter keep).map vals)) → Qd H) :
    ∃ W : Nat → Nat → Hp → Prop, (∃ m, W 0 m (upd H1 D (.lst []))) ∧ ∀ i m H, W i m H →
      (J.stop i H ∧ Qd H) ∨ (J.go i H ∧ ∃ Nx : Hp → Prop, (∀ H', Nx H' → ∃ m', m' < m ∧ W (i + 1) m' H') ∧ ∀ x H', J.yld i H x H' → g x (wipe σ vs) H' fun σ2 H2 => wipe σ2 vs = wipe σ vs ∧ tt σ2 H2 fun b H3 =>
        if b = true then te σ2 H3 fun y H4 => ∃ acc, H4 D = some (.lst acc) ∧ acc.length < sizeLine ∧ Nx (upd H4 D (.lst (acc ++ [y]))) else Nx H3) := by
  refine ⟨fun i m H => m = n - i ∧ i ≤ n ∧ Same H1 H ∧ H D = some (.lst (((List.range i).filter keep).map vals)), ⟨n, rfl, Nat.zero_le _, same_upd nD, upd_same⟩, ?_⟩
  rintro i m H ⟨rfl, hi, sm, eD⟩
  by_cases hlt : i < n
  · refine .inr ⟨go i H hlt sm, fun H' => Same H1 H' ∧ H' D = some (.lst (((List.range (i + 1)).filter keep).map vals)), fun H' p => ⟨n - (i + 1), by omega, rfl, hlt, p.1, p.2⟩, fun x H' y => ?_⟩
    refine turn i x H H' _ _ hlt sm y (fun H4 s4 hk => ⟨_, s4 _ _ eD, ?_, ?_, ?_⟩) (fun H4 s4 hk => ⟨sm.trans s4, ?_⟩)
    · rw [List.length_map]
      have h1 := List.length_filter_le keep (List.range i)
      rw [List.length_range] at h1
      rw [sizeLine_eq]
      omega
    · exact fun b o e => by
        rw [upd_ne (ne_of_none e nD)]
        exact s4 _ _ (sm _ _ e)
    · rw [upd_same, List.range_succ, List.filter_append, List.map_append]
      simp [hk]
    · rw [s4 _ _ eD, List.range_succ, List.filter_append, List.map_append]
      simp [hk]
  · have e : i = n := by omega
    subst e
    exact .inl ⟨stop H sm, done H sm eD⟩
/-- .. without a test -/
theorem lcMap {J : It} {n : Nat} {g : TG} {te : TE} {vs : List Nat} {σ : L2.St} {H1 : Hp} {D : Addr} {Qd : Hp → Prop} (vals : Nat → V) (nD : H1 D = none) (hn : n ≤ 4000)
    (go : ∀ i H, i < n → Same H1 H → J.go i H) (stop : ∀ H, Same H1 H → J.stop n H)
    (turn : ∀ i x H H' (Qk : VK) (Qn : Hp → Prop), i < n → Same H1 H → J.yld i H x H' → (∀ H4, Same H H4 → Qk (vals i) H4) → g x (wipe σ vs) H' fun σ2 H2 => wipe σ2 vs = wipe σ vs ∧ tYes σ2 H2 fun b H3 => if b = true then te σ2 H3 Qk else Qn H3)
    (done : ∀ H, Same H1 H → H D = some (.lst ((List.range n).map vals)) → Qd H) :
    ∃ W : Nat → Nat → Hp → Prop, (∃ m, W 0 m (upd H1 D (.lst []))) ∧ ∀ i m H, W i m H →
      (J.stop i H ∧ Qd H) ∨ (J.go i H ∧ ∃ Nx : Hp → Prop, (∀ H', Nx H' → ∃ m', m' < m ∧ W (i + 1) m' H') ∧ ∀ x H', J.yld i H x H' → g x (wipe σ vs) H' fun σ2 H2 => wipe σ2 vs = wipe σ vs ∧ tYes σ2 H2 fun b H3 =>
        if b = true then te σ2 H3 fun y H4 => ∃ acc, H4 D = some (.lst acc) ∧ acc.length < sizeLine ∧ Nx (upd H4 D (.lst (acc ++ [y]))) else Nx H3) :=
  lcGen (tt := tYes) (fun _ => true) vals nD hn go stop (fun i x H H' Qk Qn h1 h2 h3 h4 _ => turn i x H H' Qk Qn h1 h2 h3 fun H4 s4 => h4 H4 s4 rfl)
    (fun H s e => done H s (by rw [e, List.filter_eq_self.mpr (fun _ _ => rfl)]))
/-- the reading of a comprehension behind its iterator's making -/
def LcR (J : It) (g : TG) (tt : TT) (te : TE) (vs : List Nat) (σ : L2.St) (H1 : Hp) (Q : VK) : Prop := ∀ D, H1 D = none → ∃ W : Nat → Nat → Hp → Prop, (∃ m, W 0 m (upd H1 D (.lst []))) ∧ ∀ i m H, W i m H →
  (J.stop i H ∧ Q (.ref D) H) ∨ (J.go i H ∧ ∃ Nx : Hp → Prop, (∀ H', Nx H' → ∃ m', m' < m ∧ W (i + 1) m' H') ∧ ∀ x H', J.yld i H x H' → g x (wipe σ vs) H' fun σ2 H2 => wipe σ2 vs = wipe σ vs ∧ tt σ2 H2 fun b H3 =>
    if b = true then te σ2 H3 fun y H4 => ∃ acc, H4 D = some (.lst acc) ∧ acc.length < sizeLine ∧ Nx (upd H4 D (.lst (acc ++ [y]))) else Nx H3)
theorem map_getD {α : Type} (f : V → α) (d : V) : ∀ xs : List V, (List.range xs.length).map (fun i => f (xs.getD i d)) = xs.map f
  | [] => rfl
  | x :: r => by
    rw [List.length_cons, List.range_succ_eq_map, List.map_cons, List.map_map, List.map_cons]
    exact congrArg (f x :: ·) (map_getD f d r)
theorem lcSeq {K : PySem.W.Frag} {a : Addr} {xs : List V} {g : TG} {te : TE} {vs : List Nat} {σ : L2.St} {H1 : Hp} {Q : VK} (vals : V → V) (hq : Sq H1 a xs) (hn : xs.length ≤ 4000)
    (turn : ∀ (i : Nat) (x : V) (H : Hp) (Qk : VK) (Qn : Hp → Prop), xs[i]? = some x → Same H1 H → (∀ H4, Same H H4 → Qk (vals x) H4) → g x (wipe σ vs) H fun σ2 H2 => wipe σ2 vs = wipe σ vs ∧ tYes σ2 H2 fun b H3 => if b = true then te σ2 H3 Qk else Qn H3)
    (done : ∀ D H, H1 D = none → Same H1 H → H D = some (.lst (xs.map vals)) → Q (.ref D) H) :
    (SqL K H1 a xs ∧ LcR (Itl K a) g tYes te vs σ H1 Q) ∨ (SqT K H1 a xs ∧ LcR (Itt K a) g tYes te vs σ H1 Q) := by
  have gd : ∀ {i : Nat} {x : V}, xs[i]? = some x → xs.getD i .non = x := fun {i x} h => by
    rw [List.getD_eq_getElem?_getD, h]
    rfl
  rcases hq with hq | hq
  · refine .inl ⟨sqL hq, fun D nD => lcMap (n := xs.length) (fun i => vals (xs.getD i .non)) nD hn (fun i H h s => ⟨xs, xs[i], sqL (s _ _ hq), List.getElem?_eq_getElem h⟩) (fun H s => ⟨xs, sqL (s _ _ hq), Nat.le_refl _⟩)
      (fun i x H H' Qk Qn h s y hk => ?_) (fun H s e => done D H nD s (by rw [e, map_getD]))⟩
    obtain ⟨rfl, y⟩ := y
    have hx := y xs (sqL (s _ _ hq))
    exact turn i x _ Qk Qn hx s fun H4 s4 => by
      have z := hk H4 s4
      rw [gd hx] at z
      exact z
  · refine .inr ⟨sqT hq, fun D nD => lcMap (n := xs.length) (fun i => vals (xs.getD i .non)) nD hn (fun i H h s => ⟨xs, xs[i], sqT (s _ _ hq), List.getElem?_eq_getElem h⟩) (fun H s => ⟨xs, sqT (s _ _ hq), Nat.le_refl _⟩)
      (fun i x H H' Qk Qn h s y hk => ?_) (fun H s e => done D H nD s (by rw [e, map_getD]))⟩
    obtain ⟨rfl, y⟩ := y
    have hx := y xs (sqT (s _ _ hq))
    exact turn i x _ Qk Qn hx s fun H4 s4 => by
      have z := hk H4 s4
      rw [gd hx] at z
      exact z
theorem PE.imp {X : Cx} {e : Expr} {t t' : TE} (h : PE X e t) (i : ∀ σ H Q, t' σ H Q → t σ H Q) : PE X e t' := ⟨fun pins s σ H Q I q => h.run pins s σ H Q I (i σ H Q q)⟩
theorem PS.imp {X : Cx} {e : Stmt} {t t' : TS} (h : PS X e t) (i : ∀ D σ H, t' D σ H → t D σ H) : PS X e t' := ⟨fun pins s σ H D I q => h.run pins s σ H D I (i D σ H q)⟩
theorem wipe1 (σ : L2.St) (c : Nat) (x : V) : (wipe σ [c]).set c (some x) = σ.set c (some x) := by
  show (σ.set c none).set c (some x) = _
  rw [List.set_set]
theorem wipe2 (σ : L2.St) (c : Nat) (x : V) : wipe (σ.set c (some x)) [c] = wipe σ [c] := by
  show (σ.set c (some x)).set c none = σ.set c none
  rw [List.set_set]
/-- [e for c in j], j a name that holds a list or a tuple -/
def tMapSeq (j c : Nat) (te : TE) : TE := fun σ H Q => ∃ (a : Addr) (xs : List V) (vals : V → V), σ[j]? = some (some (.ref a)) ∧ Sq H a xs ∧ xs.length ≤ 4000 ∧
  (∀ (i : Nat) (x : V) (H2 : Hp) (Qk : VK), xs[i]? = some x → Same H H2 → (∀ H4, Same H2 H4 → Qk (vals x) H4) → te (σ.set c (some x)) H2 Qk) ∧
  ∀ D H', H D = none → Same H H' → H' D = some (.lst (xs.map vals)) → Q (.ref D) H'
theorem tMapSeq_ok {K : PySem.W.Frag} {j c : Nat} {te : TE} {σ : L2.St} {H : Hp} {Q : VK} (h : tMapSeq j c te σ H Q) : tLc (iSeq K (tVar j)) (gName c) tYes te [c] σ H Q := by
  obtain ⟨a, xs, vals, hj, hq, hn, turn, done⟩ := h
  refine ⟨.ref a, hj, a, xs, rfl, lcSeq (g := gName c) (te := te) (vs := [c]) (σ := σ) (Q := Q) vals hq hn (fun i x H2 Qk Qn hx s hk => ?_) done⟩
  show wipe ((wipe σ [c]).set c (some x)) [c] = wipe σ [c] ∧ (if true = true then te ((wipe σ [c]).set c (some x)) H2 Qk else Qn H2)
  rw [wipe1, wipe2]
  exact ⟨rfl, iteT (turn i x H2 Qk hx s hk)⟩
theorem getD_of {xs : List V} {i : Nat} {x d : V} (h : xs[i]? = some x) : xs.getD i d = x := by
  rw [List.getD_eq_getElem?_getD, h]
  rfl
/-! ### ints as data -/
theorem dpInts {K : PySem.W.Frag} {H : Hp} : ∀ ns : List Int, DpAll K H (ns.map V.int) (ns.map PyData.int)
  | [] => .nil
  | i :: r => .cons (.int i) (dpInts r)
theorem canInts : ∀ ns : List Int, PyData.canLayAll0 (ns.map PyData.int) = true
  | [] => rfl
  | i :: r => by
    show (PyData.canLay0 (.int i) && PyData.canLayAll0 (r.map PyData.int)) = true
    rw [canInts r]
    rfl
theorem depInts : ∀ ns : List Int, PyData.depthAll (ns.map PyData.int) = 0
  | [] => rfl
  | i :: r => by
    show max 0 (PyData.depthAll (r.map PyData.int)) = 0
    rw [depInts r]
    rfl
theorem eqvInts : ∀ xs ys : List Int, PyData.eqvAll (xs.map PyData.int) (ys.map PyData.int) = decide (xs = ys)
  | [], [] => by simp [PyData.eqvAll]
  | [], _ :: _ => by simp [PyData.eqvAll]
  | _ :: _, [] => by simp [PyData.eqvAll]
  | x :: xs, y :: ys => by
    rw [List.map_cons, List.map_cons, PyData.eqvAll, eqvInts xs ys, PyData.eqv]
    by_cases h : x = y
    · subst h
      by_cases h2 : xs = ys <;> simp [h2]
    · simp [h]
/-! ### is_order -/
def IsOrd (xs : List V) (m : Nat) : Prop := ∃ ns : List Nat, xs = ns.map (fun (n : Nat) => V.int (n : Int)) ∧ ns.Perm (List.range m)
theorem isOrd_len {xs : List V} {m : Nat} (h : IsOrd xs m) : xs.length = m := by
  obtain ⟨ns, rfl, p⟩ := h
  rw [List.length_map, p.length_eq, List.length_range]
theorem isOrd_whole {xs : List V} {m : Nat} (h : IsOrd xs m) : ∀ x ∈ xs, wholeV 0 ((m : Int) - 1) x = true := by
  obtain ⟨ns, rfl, p⟩ := h
  intro x hx
  obtain ⟨n, hn, rfl⟩ := List.mem_map.mp hx
  have h1 : n < m := List.mem_range.mp (p.mem_iff.mp hn)
  show (decide ((0 : Int) ≤ n) && decide ((n : Int) ≤ m - 1)) = true
  rw [decide_eq_true (by omega), decide_eq_true (by omega)]
  rfl
theorem ints_of_whole {m : Int} : ∀ {xs : List V}, (∀ x ∈ xs, wholeV 0 m x = true) → ∃ ns : List Int, xs = ns.map V.int ∧ ∀ i ∈ ns, 0 ≤ i
  | [], _ => ⟨[], rfl, fun _ h => absurd h (by simp)⟩
  | x :: r, h => by
    obtain ⟨ns, e, hp⟩ := ints_of_whole (xs := r) fun y hy => h y (List.mem_cons_of_mem _ hy)
    have hx := h x List.mem_cons_self
    cases x with
    | int i =>
      have hx : (decide ((0 : Int) ≤ i) && decide (i ≤ m)) = true := hx
      have hx := (Bool.and_eq_true_iff.mp hx).1
      have hx := of_decide_eq_true hx
      refine ⟨i :: ns, by rw [e]; rfl, fun j hj => ?_⟩
      rcases List.mem_cons.mp hj with z | z
      · rw [z]; exact hx
      · exact hp j z
    | _ => cases hx
theorem rg_nat (m : Nat) : rgV 0 (m : Int) = ((List.range m).map fun (n : Nat) => (n : Int)).map V.int := by
  unfold rgV
  rw [List.map_map, show ((m : Int) - 0).toNat = m by omega]
  refine List.map_congr_left fun n _ => ?_
  show V.int (0 + (n : Int)) = V.int (n : Int)
  rw [Int.zero_add]
theorem range_pairwise (m : Nat) : (List.range m).Pairwise (· ≤ ·) := List.pairwise_lt_range.imp fun h => Nat.le_of_lt h
theorem isOrd_sorted {ns ns' : List Int} {m : Nat} (hp : ∀ i ∈ ns, 0 ≤ i) (p : ns'.Perm ns) (s : ns'.Pairwise (· ≤ ·)) : decide (ns' = (List.range m).map fun (n : Nat) => (n : Int)) = true ↔ IsOrd (ns.map V.int) m := by
  rw [decide_eq_true_iff]
  constructor
  · intro e
    refine ⟨ns.map Int.toNat, ?_, ?_⟩
    · rw [List.map_map]
      refine List.map_congr_left fun i hi => ?_
      show V.int i = V.int ((i.toNat : Nat) : Int)
      rw [Int.toNat_of_nonneg (hp i hi)]
    · have q : (ns'.map Int.toNat).Perm (ns.map Int.toNat) := p.map _
      refine q.symm.trans ?_
      rw [e, List.map_map]
      have : (Int.toNat ∘ fun (n : Nat) => (n : Int)) = id := by
        funext n
        simp
      rw [this, List.map_id]
  · rintro ⟨ks, e, q⟩
    have e2 : ns = ks.map fun (n : Nat) => (n : Int) := by
      have h2 : ns.map V.int = (ks.map fun (n : Nat) => (n : Int)).map V.int := by
        rw [e, List.map_map]
        rfl
      exact (List.map_inj_right (fun a b h => V.int.inj h)).mp h2
    have p2 : ns'.Perm ((List.range m).map fun (n : Nat) => (n : Int)) := by
      rw [e2] at p
      exact p.trans (q.map _)
    refine List.Perm.eq_of_pairwise (fun a b _ _ h1 h2 => Int.le_antisymm h1 h2) s ?_ p2
    rw [List.pairwise_map]
    exact (range_pairwise m).imp fun h => by omega
section
variable {P : Program} {w : World} {K : PySem.W.Frag} {mg : Str → Option Value} {base : Heap}
def spOrder : Sp := fun vs H Q _ => ∃ (x : V) (m : Nat), vs = [x, .int m] ∧ m ≤ 1000 ∧ ((Scal x ∧ ∀ H', Same H H' → Q (.bl false) H') ∨
  ∃ a xs, x = .ref a ∧ Sq H a xs ∧ xs.length ≤ 1000 ∧ (∀ y ∈ xs, (∃ i, y = .int i) ∨ ∃ b, y = .bl b) ∧ ∀ H' b, Same H H' → (b = true ↔ IsOrd xs m) → Q (.bl b) H')
theorem ok_order {f fW fL : Addr} {fd fdW fdL : FuncData} {k : Nat} (F : Fun K "is_order" "is_order" sOrder f fd) (B : Bl mg) (FW : Fun K "is_whole" "is_whole" sWhole fW fdW) (bW : Binds K fdW ["value", "least", "most"] []) (gW : mg "is_whole" = some (.ref fW))
    (FL : Fun K "is_listed" "is_listed" sListed fL fdL) (bL : Binds K fdL ["value"] []) (gL : mg "is_listed" = some (.ref fL)) : FnOk P w K mg base CX0 (k + 2) f fd ["order", "many"] spOrder := by
  have GW : FnOk P w K mg base CX0 (k + 1) fW fdW ["value", "least", "most"] spWhole := ok_whole FW B
  have GL : FnOk P w K mg base CX0 (k + 1) fL fdL ["value"] spListed := ok_listed FL B
  refine F.ok scOrder (fun vs H Q E h => ?_) (fun cdv A outer s H vs Q E hr h => ?_)
  · obtain ⟨x, m, rfl, _⟩ := h
    rfl
  · obtain ⟨x, m, rfl, hm, hx⟩ := h
    refine ⟨_, pss_cons (ps_if (PW.pt (pw_or (pt_not (pt_val (pe_call GL hr (by rfl) gL FL.kp bL .nil pass0 (pa_cons (pv 0) pa_nil)))) (pw_or1 (pt_cmpR op_ne (pe_callB call_len (by rfl) B.len PySem.boot_len (pa_cons (pv 0) pa_nil)) (pv 1) (nomark _))))) (pss_one (ps_ret pe_bl)) pss_nil)
      (pss_cons (ps_if (pt_not (pt_val (pe_callB (cr_all rfl) (by rfl) B.all (by decide +kernel) (pa_cons
          (PE.imp (pe_lc (own := [("place", 2)]) (g := gName 2) (tt := tYes) rfl scOrder.nd (pi_seq (pv 0)) (blkOk_by (own := [("place", 2)]) (N := ["order", "many", "place"]) (sc := defScope sOrder) (by decide +kernel)) (fun _ _ _ _ _ => pg_name (i := 2) scOrder.nd rfl (Or.inl rfl)) (fun _ _ _ _ _ => pts_nil)
            (fun _ _ _ _ _ => pe_call GW hr (by rfl) gW FW.kp bW .nil pass0 (pa_cons (pv 2) (pa_cons pe_int (pa_cons (pe_op op_sub (pv 1) pe_int) pa_nil))))) (fun _ _ _ h => tMapSeq_ok h)) pa_nil)))) (pss_one (ps_ret pe_bl)) pss_nil)
      (pss_one (ps_ret (pe_cmpR (op_eqD hr.units) (pe_callB cr_sortedIA (by rfl) B.sorted (by decide +kernel) (pa_cons (pv 0) pa_nil)) (pe_listRg rfl (by rfl) B.list (prg_1 (by rfl) B.range (pv 1))) (nomark _))))), ?_⟩
    rcases hx with ⟨hsc, q⟩ | ⟨a, xs, rfl, hq, hl, hk, q⟩
    · exact ⟨x, rfl, x, rfl, .inr ⟨hsc, fun H' s' => ⟨false, rfl, iteT (q H' s')⟩⟩⟩
    · refine ⟨.ref a, rfl, .ref a, rfl, .inl ⟨a, xs, rfl, hq, fun H1 s1 => ⟨true, rfl, iteF ?_⟩⟩⟩
      have q1 := hq.same s1
      refine ⟨.ref a, rfl, .ref a, xs.length, rfl, ?_, .int m, rfl, rfl, _, rfl, ?_⟩
      · exact q1.elim (fun z => .inl ⟨_, sqL z, rfl⟩) fun z => .inr ⟨_, sqT z, rfl⟩
      rcases Classical.em (xs.length = m) with hlen | hlen
      case inr =>
        have e : (!decide (V.int (xs.length : Int) = V.int (m : Int))) = true := by
          rw [decide_eq_false fun z => hlen (by
            have z := V.int.inj z
            omega)]
          rfl
        rw [e]
        exact iteT (q H1 false s1 ⟨fun z => Bool.noConfusion z, fun z => absurd (isOrd_len z) hlen⟩)
      have e : (!decide (V.int (xs.length : Int) = V.int (m : Int))) = false := by
        rw [decide_eq_true (by rw [hlen])]
        rfl
      rw [e]
      refine iteF ?_
      -- all([is_whole(..) ..])
      refine ⟨a, xs, fun x => .bl (wholeV 0 ((m : Int) - 1) x), rfl, q1, by omega, fun i x H2 Qk hx s2 hk2 => ?_, fun D H2 nD s2 eD => ?_⟩
      · refine ⟨x, rfl, .int m, rfl, m, 1, rfl, rfl, ?_⟩
        exact ⟨x, 0, (m : Int) - 1, rfl, hk x (List.mem_of_getElem? hx), hk2 H2 (Same.refl _)⟩
      · have eB : xs.map (fun x => V.bl (wholeV 0 ((m : Int) - 1) x)) = (xs.map (wholeV 0 ((m : Int) - 1))).map V.bl := by
          rw [List.map_map]
          rfl
        rw [eB] at eD
        have s12 := s1.trans s2
        refine ⟨D, _, rfl, sqL eD, _, rfl, ?_⟩
        cases hall : (xs.map (wholeV 0 ((m : Int) - 1))).all id with
        | false =>
          refine iteT (q H2 false s12 ⟨fun z => Bool.noConfusion z, fun z => ?_⟩)
          have h1 : (xs.map (wholeV 0 ((m : Int) - 1))).all id = true := by
            rw [List.all_map, List.all_eq_true]
            exact fun x hx => isOrd_whole z x hx
          rw [hall] at h1
          cases h1
        | true =>
          refine iteF ?_
          rw [List.all_map, List.all_eq_true] at hall
          obtain ⟨ns, rfl, hp⟩ := ints_of_whole hall
          have q2 := q1.same s2
          -- sorted(order) == list(range(many))
          refine ⟨.ref a, rfl, a, ns, rfl, Sq.lt q2, fun ns' p pm ps np => ?_⟩
          have s3 : Same H2 (upd H2 p (.lst (ns'.map V.int))) := same_upd np
          refine ⟨.int m, rfl, m, rfl, RgOk.of_le (by omega) (by omega) (by omega) (by omega), fun p2 np2 => ?_⟩
          have s4 : Same (upd H2 p (.lst (ns'.map V.int))) (upd (upd H2 p (.lst (ns'.map V.int))) p2 (.lst (rgV 0 m))) := same_upd np2
          have e1 : upd (upd H2 p (.lst (ns'.map V.int))) p2 (.lst (rgV 0 m)) p = some (.lst (ns'.map V.int)) := s4 _ _ upd_same
          have e2 : upd (upd H2 p (.lst (ns'.map V.int))) p2 (.lst (rgV 0 m)) p2 = some (.lst (((List.range m).map fun (n : Nat) => (n : Int)).map V.int)) := by
            rw [upd_same, rg_nat]
          have sh : ∀ ks : List Int, SeqAt.shaped (.list (ks.map PyData.int)) = true := fun ks => by
            unfold SeqAt.shaped
            rw [show PyData.canLay0 (.list (ks.map PyData.int)) = PyData.canLayAll0 (ks.map PyData.int) from rfl, canInts, Bool.true_and, decide_eq_true_eq]
            show PyData.depthAll (ks.map PyData.int) + 1 ≤ 64
            rw [depInts]
            decide
          refine ⟨.list (ns'.map PyData.int), .list (((List.range m).map fun (n : Nat) => (n : Int)).map PyData.int), .lst (sqL e1) (dpInts _), .lst (sqL e2) (dpInts _), sh _, sh _, ?_⟩
          have ev : PyData.eqv (.list (ns'.map PyData.int)) (.list (((List.range m).map fun (n : Nat) => (n : Int)).map PyData.int)) = decide (ns' = (List.range m).map fun (n : Nat) => (n : Int)) := eqvInts _ _
          rw [ev]
          exact q _ _ ((s12.trans s3).trans s4) (isOrd_sorted hp pm ps)
end
end K7

set_option maxRecDepth 100000
set_option maxHeartbeats 4000000
namespace K7
open PySem PySem.Spec PyProof.Rows L2 GX
/-- [e for c in j], j a name that holds a text -/
def tMapStr (j c : Nat) (te : TE) : TE := fun σ H Q => ∃ (z : Str) (vals : Nat → V), σ[j]? = some (some (.str z)) ∧ z.cps.size ≤ 4000 ∧
  (∀ (i : Nat) (cc : Nat) (H2 : Hp) (Qk : VK), z.cps[i]? = some cc → Same H H2 → (∀ H4, Same H2 H4 → Qk (vals cc) H4) → te (σ.set c (some (.str ⟨#[cc]⟩))) H2 Qk) ∧
  ∀ D H', H D = none → Same H H' → H' D = some (.lst (z.cps.toList.map vals)) → Q (.ref D) H'
theorem map_getN (f : Nat → V) : ∀ xs : List Nat, (List.range xs.length).map (fun i => f (xs.getD i 0)) = xs.map f
  | [] => rfl
  | x :: r => by
    rw [List.length_cons, List.range_succ_eq_map, List.map_cons, List.map_map, List.map_cons]
    exact congrArg (f x :: ·) (map_getN f r)
theorem tMapStr_ok {j c : Nat} {te : TE} {σ : L2.St} {H : Hp} {Q : VK} (h : tMapStr j c te σ H Q) : tLc (iStr (tVar j)) (gName c) tYes te [c] σ H Q := by
  obtain ⟨z, vals, hj, hn, turn, done⟩ := h
  refine ⟨.str z, hj, z, rfl, fun D nD => lcMap (g := gName c) (te := te) (vs := [c]) (σ := σ) (n := z.cps.size) (fun i => vals (z.cps.toList.getD i 0)) nD hn (fun i H2 h s => h) (fun H2 s => Nat.le_refl _) (fun i x H2 H' Qk Qn h s y hk => ?_) (fun H2 s e => ?_)⟩
  · obtain ⟨e0, cc, hcc, rfl⟩ := y
    subst e0
    show wipe ((wipe σ [c]).set c (some (.str ⟨#[cc]⟩))) [c] = wipe σ [c] ∧ (if true = true then te ((wipe σ [c]).set c (some (.str ⟨#[cc]⟩))) H' Qk else Qn H')
    rw [wipe1, wipe2]
    refine ⟨rfl, iteT (turn i cc _ Qk hcc s fun H4 s4 => ?_)⟩
    have q := hk H4 s4
    have e : z.cps.toList.getD i 0 = cc := by
      rw [List.getD_eq_getElem?_getD, Array.getElem?_toList, hcc]
      rfl
    rw [e] at q
    exact q
  · refine done D H2 nD s ?_
    rw [e, ← Array.length_toList, map_getN]
def letters : Str := "abcdefghijklmnopqrstuvwxyz"
def signs : Str := "abcdefghijklmnopqrstuvwxyz0123456789."
def wordsV : List V := [.str "not", .str "and", .str "or", .str "rise", .str "fall"]
/-- a text that is a name -/
structure NameOk (z : Str) : Prop where
  low : 1 ≤ z.cps.size
  top : z.cps.size ≤ 40
  word : V.str z ∉ wordsV
  all : ∀ c ∈ z.cps.toList, c ∈ signs.cps.toList
  first : ∃ c, z.cps.toList.head? = some c ∧ c ∈ letters.cps.toList
  last : ∃ c, z.cps.toList.getLast? = some c ∧ c ≠ 46
/-- what the module's constants are -/
structure Cn (K : PySem.W.Frag) (mg : Str → Option Value) : Prop where
  let_ : ∃ t, mg "LETTERS" = some (.str letters t)
  sig : ∃ t, mg "SIGNS" = some (.str signs t)
  word : ∃ a, mg "WORDS" = some (.ref a) ∧ ∀ H : Hp, SqT K H a wordsV
section
variable {P : Program} {w : World} {K : PySem.W.Frag} {mg : Str → Option Value} {base : Heap}
def spName : Sp := fun vs H Q _ => ∃ z : Str, vs = [.str z] ∧ NameOk z ∧ ∀ H', Same H H' → Q (.bl true) H'
theorem atI_last' {xs : List Nat} {c : Nat} (h : xs.getLast? = some c) : atI xs (-1) = some c := by
  rw [List.getLast?_eq_getElem?] at h
  unfold atI ixN
  have hl : 0 < xs.length := by
    cases xs with
    | nil => simp at h
    | cons _ _ => simp
  rw [if_neg (by omega), if_pos (by omega)]
  show xs[((-1 : Int) + (xs.length : Int)).toNat]? = some c
  rw [show ((-1 : Int) + (xs.length : Int)).toNat = xs.length - 1 by omega]
  exact h
theorem atI_head {xs : List Nat} {c : Nat} (h : xs.head? = some c) : atI xs 0 = some c := by
  cases xs with
  | nil => simp at h
  | cons x r =>
    exact (atI_nat (j := 0) (show (x :: r)[0]? = some x from rfl)).trans h
theorem str1_ne {c : Nat} (h : c ≠ 46) : (V.str ⟨#[c]⟩ : V) ≠ .str "." := fun e => by
  have e := V.str.inj e
  have e2 : (#[c] : Array Nat) = #[46] := congrArg Str.cps e
  exact h (by simpa using e2)
theorem notIn_words {z : Str} (h : V.str z ∉ wordsV) : inV (.str z) wordsV = false := by
  cases e : inV (.str z) wordsV with
  | false => rfl
  | true =>
    obtain ⟨y, hy, e2⟩ := List.any_eq_true.mp (show (wordsV.any fun y => eqV y (.str z)) = true from e)
    refine absurd ?_ h
    have : y = .str z := by
      rcases List.mem_map.mp (show y ∈ (["not", "and", "or", "rise", "fall"] : List Str).map V.str from hy) with ⟨u, _, rfl⟩
      have e3 : (u == z) = true := e2
      rw [beq_iff_eq.mp e3]
    rw [← this]
    exact hy
theorem ok_name {f : Addr} {fd : FuncData} {k : Nat} (F : Fun K "is_name" "is_name" sName f fd) (B : Bl mg) (C : Cn K mg) : FnOk P w K mg base CX0 (k + 1) f fd ["value"] spName := by
  obtain ⟨tL, mL⟩ := C.let_
  obtain ⟨tS, mS⟩ := C.sig
  obtain ⟨aW, mW, hW⟩ := C.word
  refine F.ok scName (fun vs H Q E h => ?_) (fun cdv A outer s H vs Q E hr h => ?_)
  · obtain ⟨z, rfl, _⟩ := h
    rfl
  · obtain ⟨z, rfl, ok, q⟩ := h
    refine ⟨_, pss_cons (ps_if (PW.pt (pw_or (pt_not (pt_val (pe_callB call_isi (by rfl) B.isi (by decide +kernel) (pa_cons (pv 0) (pa_cons (pe_bltn (v := .ty "str") (u := .type "str") (by rfl) B.str (by decide +kernel) rfl) pa_nil)))))
        (pw_or (pt_not (pt_chain op_le op_le pe_int (pe_callB call_len (by rfl) B.len PySem.boot_len (pa_cons (pv 0) pa_nil)) pe_int)) (pw_or1 (pt_cmpR op_in_seq (pv 0) (pe_glob (v := .ref aW) (by rfl) mW rfl) (by rfl)))))) (pss_one (ps_ret pe_bl)) pss_nil)
      (pss_cons (ps_if (PW.pt (pw_or (pt_cmpR op_notIn_sign (pe_ix ix_str (pv 0) pe_int (fun _ _ => rfl)) (pe_glob (v := .str letters) (by rfl) mL ⟨_, rfl⟩) (by rfl)) (pw_or1 (pt_cmpR op_eq (pe_ix ix_str (pv 0) (pe_un un_neg pe_int) (fun _ _ => rfl)) pe_str (nomark _))))) (pss_one (ps_ret pe_bl)) pss_nil)
      (pss_one (ps_ret (pe_callB (cr_all rfl) (by rfl) B.all (by decide +kernel) (pa_cons
        (PE.imp (pe_lc (own := [("sign", 1)]) (g := gName 1) (tt := tYes) rfl scName.nd (pi_str (pv 0)) (blkOk_by (own := [("sign", 1)]) (N := ["value", "sign"]) (sc := defScope sName) (by decide +kernel)) (fun _ _ _ _ _ => pg_name (i := 1) scName.nd rfl (Or.inl rfl)) (fun _ _ _ _ _ => pts_nil)
          (fun _ _ _ _ _ => pe_cmpR op_in_sign (pv 1) (pe_glob (v := .str signs) (by rfl) mS ⟨_, rfl⟩) (by rfl))) (fun _ _ _ h => tMapStr_ok h)) pa_nil))))), ?_⟩
    have hsz : z.length ≤ sizeLine := Nat.le_trans ok.top (by decide)
    refine ⟨_, rfl, _, _, .type "str", _, true, rfl, .ty "str", .base (.str z), kit_ty (by decide +kernel), true, rfl, iteF ?_⟩
    -- 1 <= len(value) <= 40
    refine ⟨.str z, rfl, .str z, z.cps.size, rfl, ⟨hsz, rfl⟩, 1, (z.cps.size : Int), rfl, rfl, ?_⟩
    refine ⟨_, rfl, ?_⟩
    rw [decide_eq_true (show (1 : Int) ≤ (z.cps.size : Int) by have := ok.low; omega)]
    refine iteT ⟨_, _, rfl, rfl, _, rfl, ?_⟩
    rw [decide_eq_true (show (z.cps.size : Int) ≤ 40 by have := ok.top; omega)]
    refine iteF ?_
    -- value in WORDS
    refine ⟨.str z, rfl, aW, wordsV, rfl, .inr (hW H), rfl, rfl, _, rfl, ?_⟩
    rw [show inV (.str z) wordsV = false from notIn_words ok.word]
    refine iteF ?_
    -- value[0] not in LETTERS or value[-1] == "."
    obtain ⟨c0, h0, hc0⟩ := ok.first
    obtain ⟨c1, h1, hc1⟩ := ok.last
    refine ⟨.str z, rfl, z, 0, c0, rfl, rfl, hsz, atI_head h0, c0, letters, rfl, rfl, _, rfl, ?_⟩
    rw [decide_eq_true hc0]
    refine iteF ?_
    refine ⟨.str z, rfl, 1, rfl, z, -1, c1, rfl, rfl, hsz, atI_last' h1, rfl, _, rfl, ?_⟩
    rw [decide_eq_false (str1_ne hc1)]
    refine iteF ?_
    refine ⟨z, fun c => .bl (decide (c ∈ signs.cps.toList)), rfl, Nat.le_trans ok.top (by decide), fun i cc H2 Qk hcc s2 hk => ⟨_, rfl, cc, signs, rfl, rfl, hk H2 (Same.refl _)⟩, fun D H2 nD s2 eD => ?_⟩
    have eB : z.cps.toList.map (fun c => V.bl (decide (c ∈ signs.cps.toList))) = (z.cps.toList.map fun c => decide (c ∈ signs.cps.toList)).map V.bl := by
      rw [List.map_map]
      rfl
    rw [eB] at eD
    refine ⟨D, _, rfl, sqL eD, ?_⟩
    have hall : (z.cps.toList.map fun c => decide (c ∈ signs.cps.toList)).all id = true := by
      rw [List.all_map, List.all_eq_true]
      exact fun c hc => decide_eq_true (ok.all c hc)
    rw [hall]
    exact q H2 s2
end
end K7

set_option maxRecDepth 100000
set_option maxHeartbeats 4000000
namespace K7
open PySem PySem.Spec PyProof.Rows L2 GX
/-! ### _is_frame_rung -/
def ascS (rs : List Str) : Bool := (List.zip rs rs.tail).all fun q => decide (q.1.cps.toList < q.2.cps.toList)
/-- a rung of a frame: what it reads, what it writes -/
structure Rung where
  reads : List Str
  name : Str
def txs (rs : List Str) : List V := rs.map V.str
/-- a rung at r -/
def RgAt (H : Hp) (r : Addr) (g : Rung) : Prop := ∃ q, H r = some (.tup [.ref q, .str g.name]) ∧ H q = some (.tup (txs g.reads))
theorem RgAt.same {H H' : Hp} {r : Addr} {g : Rung} (s : Same H H') (h : RgAt H r g) : RgAt H' r g := by
  obtain ⟨q, h1, h2⟩ := h
  exact ⟨q, s _ _ h1, s _ _ h2⟩
/-- its names are names -/
def GoodNames (g : Rung) : Prop := NameOk g.name ∧ (∀ z ∈ g.reads, NameOk z) ∧ g.reads.length ≤ 100
def spRung : Sp := fun vs H Q _ => ∃ (r : Addr) (g : Rung), vs = [.ref r] ∧ RgAt H r g ∧ GoodNames g ∧ ∀ H', Same H H' → Q (.bl (ascS g.reads)) H'
section
variable {P : Program} {w : World} {K : PySem.W.Frag} {mg : Str → Option Value} {base : Heap}
/-- [e for c, d in zip(x, y)] over two tuples that stand -/
theorem lcZipT {a b : Addr} {xs ys : List V} {g : TG} {te : TE} {vs : List Nat} {σ : L2.St} {H1 : Hp} {Q : VK} (vals : V × V → V) (hx : H1 a = some (.tup xs)) (hy : H1 b = some (.tup ys)) (hn : xs.length ≤ 4000)
    (turn : ∀ (i : Nat) (x y : V) (T : Addr) (H : Hp) (Qk : VK), xs[i]? = some x → ys[i]? = some y → Same H1 H → H T = none → (∀ H4, Same (upd H T (.tup [x, y])) H4 → Qk (vals (x, y)) H4) →
      g (.ref T) (wipe σ vs) (upd H T (.tup [x, y])) fun σ2 H2 => wipe σ2 vs = wipe σ vs ∧ te σ2 H2 Qk)
    (done : ∀ D H, H1 D = none → Same H1 H → H D = some (.lst ((List.zip xs ys).map vals)) → Q (.ref D) H) :
    LcR (RZ.ItzT K a b) g tYes te vs σ H1 Q := by
  intro D nD
  have hz : (List.zip xs ys).length ≤ xs.length := by
    rw [List.length_zip]
    omega
  refine lcMap (n := (List.zip xs ys).length) (fun i => vals ((List.zip xs ys).getD i (.non, .non))) nD (by omega) (fun i H h s => ?_) (fun H s => ?_) (fun i v H H' Qk Qn h s y hk => ?_) (fun H s e => done D H nD s ?_)
  · rw [List.length_zip] at h
    exact ⟨xs, ys, xs[i]'(by omega), ys[i]'(by omega), sqT (s _ _ hx), sqT (s _ _ hy), List.getElem?_eq_getElem (by omega), List.getElem?_eq_getElem (by omega)⟩
  · refine ⟨xs, ys, sqT (s _ _ hx), sqT (s _ _ hy), ?_⟩
    rw [List.length_zip]
    omega
  · obtain ⟨T, x, y, rfl, nT, rfl, h1, h2⟩ := y
    have e1 := h1 xs (sqT (s _ _ hx))
    have e2 := h2 ys (sqT (s _ _ hy))
    have e3 : (List.zip xs ys).getD i (.non, .non) = (x, y) := by
      rw [List.getD_eq_getElem?_getD, List.getElem?_zip_eq_some (z := (x, y)) |>.mpr ⟨e1, e2⟩]
      rfl
    have z := turn i x y T H Qk e1 e2 s nT fun H4 s4 => by
      have z := hk H4 ((same_upd nT).trans s4)
      rw [e3] at z
      exact z
    exact z
  · rw [e]
    have : ∀ (f : V × V → V) (l : List (V × V)), (List.range l.length).map (fun i => f (l.getD i (.non, .non))) = l.map f := by
      intro f l
      induction l with
      | nil => rfl
      | cons x r ih =>
        rw [List.length_cons, List.range_succ_eq_map, List.map_cons, List.map_map, List.map_cons]
        exact congrArg (f x :: ·) ih
    rw [this]
theorem cut1 (xs : List V) : cutV xs (some 1) none = xs.tail := by
  unfold cutV
  rw [show (some (1 : Int)) = some ((1 : Nat) : Int) from rfl, HT.sIx_nat]
  show List.take (xs.length - min 1 xs.length) (List.drop (min 1 xs.length) xs) = _
  cases xs with
  | nil => rfl
  | cons x r =>
    rw [show min 1 (x :: r).length = 1 by rw [List.length_cons]; omega]
    show List.take (r.length + 1 - 1) r = r
    rw [List.take_of_length_le (by omega)]
theorem zip_txs (rs qs : List Str) : List.zip (txs rs) (txs qs) = (List.zip rs qs).map fun q => (V.str q.1, V.str q.2) := by
  unfold txs
  rw [List.zip_map]
  rfl
theorem ok_rung {f fN : Addr} {fd fdN : FuncData} {k : Nat} (F : Fun K "_is_frame_rung" "_is_frame_rung" sRung f fd) (B : Bl mg) (C : Cn K mg) (FN : Fun K "is_name" "is_name" sName fN fdN) (bN : Binds K fdN ["value"] []) (gN : mg "is_name" = some (.ref fN)) :
    FnOk P w K mg base CX0 (k + 2) f fd ["rung"] spRung := by
  have GN : FnOk P w K mg base CX0 (k + 1) fN fdN ["value"] spName := ok_name FN B C
  refine F.ok scRung (fun vs H Q E h => ?_) (fun cdv A outer s H vs Q E hr h => ?_)
  · obtain ⟨r, g, rfl, _⟩ := h
    rfl
  · obtain ⟨r, g, rfl, ⟨q, hr1, hr2⟩, ⟨gn, gr, gl⟩, done⟩ := h
    refine ⟨_, pss_cons (ps_if (PW.pt (pw_or (pt_not (pt_val (pe_callB call_isi (by rfl) B.isi (by decide +kernel) (pa_cons (pv 0) (pa_cons (pe_bltn (v := .ty "tuple") (u := .type "tuple") (by rfl) B.tuple (by decide +kernel) rfl) pa_nil)))))
        (pw_or (pt_cmpR op_ne (pe_callB call_len (by rfl) B.len PySem.boot_len (pa_cons (pv 0) pa_nil)) pe_int (nomark _))
          (pw_or1 (pt_not (pt_val (pe_callB call_isi (by rfl) B.isi (by decide +kernel) (pa_cons (pe_ix ix_tup (pv 0) pe_int (fun _ _ => rfl)) (pa_cons (pe_bltn (v := .ty "tuple") (u := .type "tuple") (by rfl) B.tuple (by decide +kernel) rfl) pa_nil))))))))) (pss_one (ps_ret pe_bl)) pss_nil)
      (pss_cons (ps_asg (pv 0) (pg_tup rfl (pgs_cons (pg_name (i := 1) scRung.nd rfl (Or.inl rfl)) (pgs_cons (pg_name (i := 2) scRung.nd rfl (Or.inl rfl)) pgs_nil))))
      (pss_cons (ps_if (PW.pt (pw_or (pt_not (pt_val (pe_call GN hr (by rfl) gN FN.kp bN .nil pass0 (pa_cons (pv 2) pa_nil))))
        (pw_or1 (pt_not (pt_val (pe_callB (cr_all rfl) (by rfl) B.all (by decide +kernel) (pa_cons
          (PE.imp (pe_lc (own := [("read", 3)]) (g := gName 3) (tt := tYes) rfl scRung.nd (pi_seq (pv 1)) (blkOk_by (own := [("read", 3)]) (N := ["rung", "reads", "name", "read", "ahead", "behind"]) (sc := defScope sRung) (by decide +kernel)) (fun _ _ _ _ _ => pg_name (i := 3) scRung.nd rfl (Or.inl rfl)) (fun _ _ _ _ _ => pts_nil)
            (fun _ _ _ _ _ => pe_call GN hr (by rfl) gN FN.kp bN .nil pass0 (pa_cons (pv 3) pa_nil))) (fun _ _ _ h => tMapSeq_ok h)) pa_nil))))))) (pss_one (ps_ret pe_bl)) pss_nil)
      (pss_one (ps_ret (pe_callB (cr_all rfl) (by rfl) B.all (by decide +kernel) (pa_cons
          (pe_lc (own := [("ahead", 4), ("behind", 5)]) (g := gTup K 2 (gCons (gName 4) (gCons (gName 5) gNil))) (tt := tYes) rfl scRung.nd (RZ.pi_zipA (by rfl) B.zip (pa_cons (pv 1) (pa_cons (pe_slice sl_tupA (pv 1) (po_some pe_int) po_none) pa_nil))) (blkOk_by (own := [("ahead", 4), ("behind", 5)]) (N := ["rung", "reads", "name", "read", "ahead", "behind"]) (sc := defScope sRung) (by decide +kernel)) (fun _ _ _ _ _ => pg_tup rfl (pgs_cons (pg_name (i := 4) scRung.nd rfl (Or.inl rfl)) (pgs_cons (pg_name (i := 5) scRung.nd rfl (Or.inl rfl)) pgs_nil))) (fun _ _ _ _ _ => pts_nil)
            (fun _ _ _ _ _ => pe_cmpR op_lt_str (pv 4) (pv 5) (nomark _))) pa_nil)))))), ?_⟩
    -- isinstance(rung, tuple), len, isinstance(rung[0], tuple)
    refine ⟨_, rfl, _, _, .type "tuple", _, true, rfl, .ty "tuple", .base (.tup hr1), kit_ty (by decide +kernel), true, rfl, iteF ?_⟩
    refine ⟨.ref r, rfl, .ref r, 2, rfl, .inr ⟨_, sqT hr1, rfl⟩, rfl, _, rfl, ?_⟩
    rw [show (!decide (V.int ((2 : Nat) : Int) = V.int 2)) = false by decide]
    refine iteF ?_
    refine ⟨.ref r, rfl, r, _, 0, .ref q, rfl, rfl, sqT hr1, atI_nat (j := 0) rfl, ?_⟩
    refine ⟨_, _, .type "tuple", _, true, rfl, .ty "tuple", .base (.tup hr2), kit_ty (by decide +kernel), true, rfl, iteF ?_⟩
    -- reads, name = rung
    refine ⟨.ref r, rfl, r, _, rfl, sqT hr1, rfl, .ref q, _, rfl, .str g.name, _, rfl, rfl, ?_⟩
    -- is_name(name)
    refine ⟨.str g.name, rfl, g.name, rfl, gn, fun H1 s1 => ⟨true, rfl, iteF ?_⟩⟩
    have hq1 : H1 q = some (.tup (txs g.reads)) := s1 _ _ hr2
    refine ⟨q, txs g.reads, fun _ => .bl true, rfl, .inr hq1, ?_, fun i x H2 Qk hx s2 hk2 => ?_, fun D H2 nD s2 eD => ?_⟩
    · unfold txs
      rw [List.length_map]
      omega
    · obtain ⟨z, hz, rfl⟩ := List.mem_map.mp (List.mem_of_getElem? hx)
      exact ⟨.str z, rfl, z, rfl, gr z hz, hk2⟩
    have eB : (txs g.reads).map (fun _ => V.bl true) = ((txs g.reads).map fun _ => true).map V.bl := by
      rw [List.map_map]
      rfl
    rw [eB] at eD
    have ea : ((txs g.reads).map fun _ => true).all id = true := by
      rw [List.all_map, List.all_eq_true]
      exact fun _ _ => rfl
    refine ⟨D, _, rfl, sqL eD, _, rfl, ?_⟩
    rw [ea]
    refine iteF ?_
    have s12 := s1.trans s2
    have hq2 : H2 q = some (.tup (txs g.reads)) := s12 _ _ hr2
    have key : ∀ (b : Addr) (H3 : Hp), Same H2 H3 → H3 b = some (.tup (txs g.reads).tail) → LcR (RZ.ItzT K q b) (gTup K 2 (gCons (gName 4) (gCons (gName 5) gNil))) tYes
        (tOp (fun x y H Q => ∃ i j, x = V.str i ∧ y = V.str j ∧ Q (V.bl (decide (i.cps.toList < j.cps.toList))) H) (tVar 4) (tVar 5)) [4, 5] [some (.ref r), some (.ref q), some (.str g.name), none, none, none] H3 (fun v H' => rAll K [v] H' Q) := by
      intro b H3 s3 hb
      have hq3 := s3 _ _ hq2
      refine lcZipT (fun xy => match xy with | (.str x, .str y) => .bl (decide (x.cps.toList < y.cps.toList)) | _ => .non) hq3 hb ?_ (fun i x y T H4 Qk hx hy s4 nT hk => ?_) (fun D H4 nD s4 eD => ?_)
      · unfold txs
        rw [List.length_map]
        omega
      · obtain ⟨x, hx', rfl⟩ := List.mem_map.mp (List.mem_of_getElem? hx)
        obtain ⟨y, hy', rfl⟩ := List.mem_map.mp (List.mem_of_mem_tail (List.mem_of_getElem? hy))
        exact ⟨T, _, rfl, sqT upd_same, rfl, .str x, _, rfl, .str y, _, rfl, rfl, rfl, .str x, rfl, .str y, rfl, x, y, rfl, rfl, hk _ (Same.refl _)⟩
      · have e : (List.zip (txs g.reads) (txs g.reads).tail).map (fun xy => match xy with | (.str x, .str y) => V.bl (decide (x.cps.toList < y.cps.toList)) | _ => .non) = ((List.zip g.reads g.reads.tail).map fun q => decide (q.1.cps.toList < q.2.cps.toList)).map V.bl := by
          rw [show (txs g.reads).tail = txs g.reads.tail by unfold txs; rw [List.map_tail], zip_txs, List.map_map, List.map_map]
          rfl
        rw [e] at eD
        refine ⟨D, _, rfl, sqL eD, ?_⟩
        have q0 := done H4 ((s12.trans s3).trans s4)
        unfold ascS at q0
        rw [List.all_map]
        exact q0
    -- zip(reads, reads[1:])
    refine ⟨.ref q, rfl, .ref q, rfl, 1, rfl, ?_⟩
    refine ⟨q, txs g.reads, rfl, sqT hq2, fun hw => ?_, fun hw p np => ?_⟩
    · have hb : H2 q = some (.tup (txs g.reads).tail) := by
        have e0 : txs g.reads = [] := by
          have h1 : HT.sIx (txs g.reads).length 0 (some ((1 : Nat) : Int)) = 0 := hw.1
          rw [HT.sIx_nat] at h1
          exact List.length_eq_zero_iff.mp (by omega)
        rw [hq2, e0]
        rfl
      exact ⟨q, q, txs g.reads, (txs g.reads).tail, rfl, .inr ⟨sqT hq2, sqT hb, key q H2 (Same.refl _) hb⟩⟩
    · have hb : upd H2 p (HO.tup (cutV (txs g.reads) (some 1) none)) p = some (.tup (txs g.reads).tail) := by
        rw [upd_same, cut1]
      exact ⟨q, p, txs g.reads, (txs g.reads).tail, rfl, .inr ⟨sqT (same_upd np _ _ hq2), sqT hb, key p _ (same_upd np) hb⟩⟩
end
end K7

set_option maxRecDepth 100000
set_option maxHeartbeats 4000000
namespace K7
open PySem PySem.Spec PyProof.Rows L2 GX NdefX
/-! ### the exceptions' own __init__ -/
abbrev iBook : Stmt := inClass (topS 2) 0
abbrev iNum : Stmt := inClass (topS 3) 0
abbrev iMany : Stmt := inClass (topS 4) 0
theorem nsMany : NScope ["self", "limit", "__class__"] ["self", "limit"] ["__class__"] (defScope sMany) := ⟨rfl, rfl, rfl, by decide +kernel, rfl, by decide +kernel, by decide +kernel, by decide +kernel, by decide +kernel⟩
theorem nsNum : NScope ["self", "word", "__class__"] ["self", "word"] ["__class__"] (defScope sNum) := ⟨rfl, rfl, rfl, by decide +kernel, rfl, by decide +kernel, by decide +kernel, by decide +kernel, by decide +kernel⟩
theorem nsBook : NScope ["self", "word", "place", "__class__"] ["self", "word", "place"] ["__class__"] (defScope sBook) := ⟨rfl, rfl, rfl, by decide +kernel, rfl, by decide +kernel, by decide +kernel, by decide +kernel, by decide +kernel⟩
def spMany (C : Addr) : Sp := fun vs H Q _ => ∃ (a : Addr) (i : Int), vs = [.ref a, .int i] ∧ H a = some (exo a C none) ∧ i.natAbs.log2 < 1920 ∧ (Str.ofString (toString i)).length ≤ 100 ∧
  ∀ dx, H dx = none → dx ≠ a → Q .non (upd (upd H dx (exd dx [("limit", .int i)])) a (exo a C (some dx)))
def spNum (C : Addr) : Sp := fun vs H Q _ => ∃ (a : Addr) (z : Str), vs = [.ref a, .str z] ∧ H a = some (exo a C none) ∧ z.length ≤ 100 ∧
  ∀ dx, H dx = none → dx ≠ a → Q .non (upd (upd H dx (exd dx [("word", .str z)])) a (exo a C (some dx)))
def spBook (C : Addr) : Sp := fun vs H Q _ => ∃ (a : Addr) (z : Str) (i : Int), vs = [.ref a, .str z, .int i] ∧ H a = some (exo a C none) ∧ z.length ≤ 100 ∧ i.natAbs.log2 < 1920 ∧ (Str.ofString (toString i)).length ≤ 100 ∧
  ∀ dx, H dx = none → dx ≠ a → Q .non (upd (upd (upd H dx (exd dx [("word", .str z)])) a (exo a C (some dx))) dx (exd dx [("place", .int i), ("word", .str z)]))
theorem lenApp (a b : Str) : (a ++ b).length = a.length + b.length := Array.size_append
section
variable {P : Program} {w : World} {K : PySem.W.Frag} {mg : Str → Option Value} {base : Heap}
theorem ok_num {C f : Addr} {fd : FuncData} {k : Nat} (T : Sup P K mg C f "BadNumber.__init__" sNum fd) (nf : PySem.W.findIn K (.ref C) "word" = some none) : FnOk P w K mg base CX0 (k + 1) f fd ["self", "word"] (spNum C) := by
  refine fn_ofI T nsNum rfl rfl rfl (fun vs H Q E h => ?_) rfl (fun _ _ _ => ⟨rfl, rfl, ⟨_, rfl⟩, rfl, rfl⟩) (fun cc cda A outer s H vs Q E hr h => ?_)
  · obtain ⟨a, z, rfl, _⟩ := h
    rfl
  · obtain ⟨a, z, rfl, ha, hz, q⟩ := h
    refine ⟨a, _, _, _, rfl, ha, pa_cons (pe_joined (PJ.cons pe_str (PJ.cons (pe_fmt (pv 1)) PJ.nil))) pa_nil, pss_one (ps_ost (pv 0) (pv 1)), ?_⟩
    refine ⟨_, rfl, by rw [lenApp]; exact Nat.le_trans (by decide) (Nat.le_refl _), .str z, rfl, .inl ⟨z, rfl, Nat.le_trans hz (by decide), z, rfl, ?_, ha, by show 1 ≤ 1000; decide, ?_⟩⟩
    · rw [lenApp, lenApp]
      have : sizeLine = 16777216 := sizeLine_eq
      have e : (Str.ofString "out of range: ").length = 14 := by decide
      have e2 : Str.empty.length = 0 := by decide
      omega
    · exact ⟨.str z, rfl, .ref a, rfl, a, C, rfl, T.O, nf, .inl ⟨ha, q⟩⟩
theorem ok_many {C f : Addr} {fd : FuncData} {k : Nat} (T : Sup P K mg C f "TooMany.__init__" sMany fd) (nf : PySem.W.findIn K (.ref C) "limit" = some none) : FnOk P w K mg base CX0 (k + 1) f fd ["self", "limit"] (spMany C) := by
  refine fn_ofI T nsMany rfl rfl rfl (fun vs H Q E h => ?_) rfl (fun _ _ _ => ⟨rfl, rfl, ⟨_, rfl⟩, rfl, rfl⟩) (fun cc cda A outer s H vs Q E hr h => ?_)
  · obtain ⟨a, z, rfl, _⟩ := h
    rfl
  · obtain ⟨a, i, rfl, ha, hi, hz, q⟩ := h
    refine ⟨a, _, _, _, rfl, ha, pa_cons (pe_joined (PJ.cons pe_str (PJ.cons (pe_fmt (pv 1)) PJ.nil))) pa_nil, pss_one (ps_ost (pv 0) (pv 1)), ?_⟩
    refine ⟨_, rfl, by rw [lenApp]; exact Nat.le_trans (by decide) (Nat.le_refl _), .int i, rfl, .inr ⟨i, rfl, hi, toString i, rfl, ?_, ha, by show 1 ≤ 1000; decide, ?_⟩⟩
    · rw [lenApp, lenApp]
      have : sizeLine = 16777216 := sizeLine_eq
      have e : (Str.ofString "more than ").length = 10 := by decide
      have e2 : Str.empty.length = 0 := by decide
      omega
    · exact ⟨.int i, rfl, .ref a, rfl, a, C, rfl, T.O, nf, .inl ⟨ha, q⟩⟩
theorem ok_book {C f : Addr} {fd : FuncData} {k : Nat} (T : Sup P K mg C f "BadBook.__init__" sBook fd) (nf : PySem.W.findIn K (.ref C) "word" = some none) (nf2 : PySem.W.findIn K (.ref C) "place" = some none) : FnOk P w K mg base CX0 (k + 1) f fd ["self", "word", "place"] (spBook C) := by
  refine fn_ofI T nsBook rfl rfl rfl (fun vs H Q E h => ?_) rfl (fun _ _ _ => ⟨rfl, rfl, ⟨_, rfl⟩, rfl, rfl⟩) (fun cc cda A outer s H vs Q E hr h => ?_)
  · obtain ⟨a, z, i, rfl, _⟩ := h
    rfl
  · obtain ⟨a, z, i, rfl, ha, hz, hi, hi2, q⟩ := h
    refine ⟨a, _, _, _, rfl, ha, pa_cons (pe_joined (PJ.cons pe_str (PJ.cons (pe_fmt (pv 1)) (PJ.cons pe_str (PJ.cons (pe_fmt (pv 2)) PJ.nil))))) pa_nil, pss_cons (ps_ost (pv 0) (pv 1)) (pss_one (ps_ost (pv 0) (pv 2))), ?_⟩
    have e1 : (Str.ofString "the book has a wrong part: ").length = 27 := by decide
    have e2 : Str.empty.length = 0 := by decide
    have e3 : (Str.ofString " at place ").length = 10 := by decide
    have e4 : sizeLine = 16777216 := sizeLine_eq
    refine ⟨_, rfl, by rw [lenApp]; omega, .str z, rfl, .inl ⟨z, rfl, Nat.le_trans hz (by decide), z, rfl, by rw [lenApp, lenApp]; omega, _, rfl, by rw [lenApp, lenApp, lenApp]; omega, .int i, rfl, .inr ⟨i, rfl, hi, toString i, rfl, by rw [lenApp, lenApp, lenApp, lenApp]; omega, ha, by show 1 ≤ 1000; decide, ?_⟩⟩⟩
    refine ⟨.str z, rfl, .ref a, rfl, a, C, rfl, T.O, nf, .inl ⟨ha, fun dx nx ne => ?_⟩⟩
    exact ⟨.int i, rfl, .ref a, rfl, a, C, rfl, T.O, nf2, .inr ⟨dx, _, upd_same, by rw [upd_ne ne, upd_same], by show 1 ≤ 900; decide, q dx nx ne⟩⟩
end
end K7

set_option maxRecDepth 100000
set_option maxHeartbeats 4000000
namespace K7
open PySem PySem.Spec PyProof.Rows L2 GX NdefX
/-- the three exception classes -/
structure Xc (P : Program) (K : PySem.W.Frag) (mg : Str → Option Value) where
  CB : Addr
  CN : Addr
  CM : Addr
  fB : Addr
  fN : Addr
  fM : Addr
  dB : FuncData
  dN : FuncData
  dM : FuncData
  TB : Sup P K mg CB fB "BadBook.__init__" sBook dB
  TN : Sup P K mg CN fN "BadNumber.__init__" sNum dN
  TM : Sup P K mg CM fM "TooMany.__init__" sMany dM
  bB : Binds K dB ["self", "word", "place"] []
  bN : Binds K dN ["self", "word"] []
  bM : Binds K dM ["self", "limit"] []
  nB : PySem.W.findIn K (.ref CB) "word" = some none
  nB2 : PySem.W.findIn K (.ref CB) "place" = some none
  nN : PySem.W.findIn K (.ref CN) "word" = some none
  nM : PySem.W.findIn K (.ref CM) "limit" = some none
  gB : mg "BadBook" = some (.ref CB)
  gN : mg "BadNumber" = some (.ref CN)
  gM : mg "TooMany" = some (.ref CM)
/-- an exception of class C with these fields leaves -/
def Rai (E : XK) (C : Addr) (H : Hp) (fs : List (Str × V)) : Prop := ∀ d H', Same H H' → H' d = some (.xd fs) → E (.ref C) (some d) H'
theorem Rai.same {E : XK} {C : Addr} {H H1 : Hp} {fs : List (Str × V)} (h : Rai E C H fs) (s : Same H H1) : Rai E C H1 fs := fun d H' s' e => h d H' (s.trans s') e
theorem xsame {H1 : Hp} {a dx : Addr} {H2 : Hp} {o : HO} (na : H1 a = none) (nd : H1 dx = none) (k : ∀ b, b ≠ a → b ≠ dx → H2 b = H1 b) : Same H1 (upd (del H2 a) dx o) := fun b x e => by
  have h1 := ne_of_none e na
  have h2 := ne_of_none e nd
  rw [upd_ne h2, del_ne h1, k b h1 h2]
  exact e
theorem mkO_num {E : XK} {C : Addr} {H H1 : Hp} {z : Str} (hz : z.length ≤ 100) (h : Rai E C H [("word", .str z)]) (s : Same H H1) :
    [V.str z].length ≤ 1000 ∧ ∀ a, H1 a = none → spNum C (.ref a :: ([V.str z] ++ [])) (upd H1 a (exo a C none)) (fun v H2 => v = .non ∧ ∃ d fs, H2 a = some (exo a C (some d)) ∧ H2 d = some (exd d fs) ∧ H1 d = none ∧ E (.ref C) (some d) (upd (del H2 a) d (.xd fs))) (fun _ _ _ => False) := by
  refine ⟨by show 1 ≤ 1000; decide, fun a na => ⟨a, z, rfl, upd_same, hz, fun dx nx ne => ?_⟩⟩
  rw [upd_ne ne] at nx
  refine ⟨rfl, dx, _, upd_same, by rw [upd_ne ne, upd_same], nx, h dx _ (s.trans (xsame na nx fun b h1 h2 => ?_)) upd_same⟩
  rw [upd_ne h1, upd_ne h2, upd_ne h1]
theorem mkO_many {E : XK} {C : Addr} {H H1 : Hp} (h : Rai E C H [("limit", .int 8)]) (s : Same H H1) :
    [V.int 8].length ≤ 1000 ∧ ∀ a, H1 a = none → spMany C (.ref a :: ([V.int 8] ++ [])) (upd H1 a (exo a C none)) (fun v H2 => v = .non ∧ ∃ d fs, H2 a = some (exo a C (some d)) ∧ H2 d = some (exd d fs) ∧ H1 d = none ∧ E (.ref C) (some d) (upd (del H2 a) d (.xd fs))) (fun _ _ _ => False) := by
  refine ⟨by show 1 ≤ 1000; decide, fun a na => ⟨a, 8, rfl, upd_same, by decide, by decide, fun dx nx ne => ?_⟩⟩
  rw [upd_ne ne] at nx
  refine ⟨rfl, dx, _, upd_same, by rw [upd_ne ne, upd_same], nx, h dx _ (s.trans (xsame na nx fun b h1 h2 => ?_)) upd_same⟩
  rw [upd_ne h1, upd_ne h2, upd_ne h1]
theorem small_place : ∀ i : Nat, i < 20 → ((i : Int)).natAbs.log2 < 1920 ∧ (Str.ofString (toString (i : Int))).length ≤ 100 := by decide +kernel
theorem mkO_book {E : XK} {C : Addr} {H H1 : Hp} {z : Str} {i : Nat} (hz : z.length ≤ 100) (hi : i < 20) (h : Rai E C H [("place", .int i), ("word", .str z)]) (s : Same H H1) :
    [V.str z, V.int i].length ≤ 1000 ∧ ∀ a, H1 a = none → spBook C (.ref a :: ([V.str z, V.int i] ++ [])) (upd H1 a (exo a C none)) (fun v H2 => v = .non ∧ ∃ d fs, H2 a = some (exo a C (some d)) ∧ H2 d = some (exd d fs) ∧ H1 d = none ∧ E (.ref C) (some d) (upd (del H2 a) d (.xd fs))) (fun _ _ _ => False) := by
  refine ⟨by show 2 ≤ 1000; decide, fun a na => ⟨a, z, i, rfl, upd_same, hz, (small_place i hi).1, (small_place i hi).2, fun dx nx ne => ?_⟩⟩
  rw [upd_ne ne] at nx
  refine ⟨rfl, dx, _, by rw [upd_ne ne.symm, upd_same], upd_same, nx, h dx _ (s.trans (xsame na nx fun b h1 h2 => ?_)) upd_same⟩
  rw [upd_ne h2, upd_ne h1, upd_ne h2, upd_ne h1]
/-! ### check_frame -/
/-- where a frame's first bad rung stands -/
def badAt (seen : List Str) (i : Nat) : List Rung → Option Nat
  | [] => none
  | g :: r => if ascS g.reads = false ∨ g.name ∈ seen then some i else badAt (seen ++ [g.name]) (i + 1) r
/-- rungs at rs -/
def RgsAt (H : Hp) (rs : List Addr) (gs : List Rung) : Prop := Paired (fun r g => RgAt H r g) rs gs
def Frm (H : Hp) (f : Addr) (gs : List Rung) : Prop := ∃ rs, Sq H f (rs.map V.ref) ∧ RgsAt H rs gs ∧ ∀ g ∈ gs, GoodNames g
def spCheck (CB CM : Addr) : Sp := fun vs H Q E => ∃ (f : Addr) (gs : List Rung), vs = [.ref f] ∧ Frm H f gs ∧ gs.length ≤ 100 ∧
  if 8 < gs.length then Rai E CM H [("limit", .int 8)] else match badAt [] 0 gs with
    | some i => Rai E CB H [("place", .int (i : Nat)), ("word", .str "frame")]
    | none => ∀ H', Same H H' → Q .non H'
/-! ### for loops -/
def ForR (J : It) (g : TG) (tb : TS) (D : Ends) (σ : L2.St) (H : Hp) : Prop := ∃ W : Nat → Nat → L2.St → Hp → Prop, (∃ m, W 0 m σ H) ∧ ∀ i m σ H, W i m σ H →
  (J.stop i H ∧ D.nx σ H) ∨ (J.go i H ∧ ∃ N : L2.St → Hp → Prop, (∀ σ' H', N σ' H' → ∃ m', m' < m ∧ W (i + 1) m' σ' H') ∧ ∀ x H', J.yld i H x H' → g x σ H' fun σ2 H2 => tb { nx := N, rt := D.rt, bk := D.nx, ct := N } σ2 H2)
theorem forGen {J : It} {n : Nat} {g : TG} {tb : TS} {D : Ends} {σ : L2.St} {H : Hp} (Pv : Nat → L2.St → Hp → Prop) (h0 : Pv 0 σ H) (go : ∀ i σ H, i < n → Pv i σ H → J.go i H) (stop : ∀ σ H, Pv n σ H → J.stop n H)
    (turn : ∀ i x σ H H', i < n → Pv i σ H → J.yld i H x H' → g x σ H' fun σ2 H2 => tb { nx := Pv (i + 1), rt := D.rt, bk := D.nx, ct := Pv (i + 1) } σ2 H2) (done : ∀ σ H, Pv n σ H → D.nx σ H) : ForR J g tb D σ H := by
  refine ⟨fun i m σ H => m = n - i ∧ i ≤ n ∧ Pv i σ H, ⟨n, rfl, Nat.zero_le _, h0⟩, ?_⟩
  rintro i m σ H ⟨rfl, hi, p⟩
  by_cases hlt : i < n
  · exact .inr ⟨go i σ H hlt p, Pv (i + 1), fun σ' H' q => ⟨n - (i + 1), by omega, rfl, hlt, q⟩, fun x H' y => turn i x σ H H' hlt p y⟩
  · have e : i = n := by omega
    subst e
    exact .inl ⟨stop σ H p, done σ H p⟩
theorem forEnum {K : PySem.W.Frag} {a : Addr} {xs : List V} {g : TG} {tb : TS} {D : Ends} {σ : L2.St} {H : Hp} (Pv : Nat → L2.St → Hp → Prop) (hq : Sq H a xs) (h0 : Pv 0 σ H) (hl : ∀ i σ H' o, Pv i σ H' → H a = some o → H' a = some o)
    (turn : ∀ i x T σ H, xs[i]? = some x → Pv i σ H → H T = none → g (.ref T) σ (upd H T (.tup [.int (i : Nat), x])) fun σ2 H2 => tb { nx := Pv (i + 1), rt := D.rt, bk := D.nx, ct := Pv (i + 1) } σ2 H2) (done : ∀ σ H, Pv xs.length σ H → D.nx σ H) :
    (SqL K H a xs ∧ ForR (Ite K a) g tb D σ H) ∨ (SqT K H a xs ∧ ForR (IteT K a) g tb D σ H) := by
  rcases hq with hq | hq
  · refine .inl ⟨sqL hq, forGen (n := xs.length) Pv h0 (fun i σ H h p => ⟨xs, xs[i], sqL (hl _ _ _ _ p hq), List.getElem?_eq_getElem h⟩) (fun σ H p => ⟨xs, sqL (hl _ _ _ _ p hq), Nat.le_refl _⟩) (fun i x σ H H' hi p y => ?_) done⟩
    obtain ⟨T, x, rfl, nT, rfl, hx⟩ := y
    exact turn i x T σ H (hx xs (sqL (hl _ _ _ _ p hq))) p nT
  · refine .inr ⟨sqT hq, forGen (n := xs.length) Pv h0 (fun i σ H h p => ⟨xs, xs[i], sqT (hl _ _ _ _ p hq), List.getElem?_eq_getElem h⟩) (fun σ H p => ⟨xs, sqT (hl _ _ _ _ p hq), rfl⟩) (fun i x σ H H' hi p y => ?_) done⟩
    obtain ⟨T, x, rfl, nT, rfl, hx⟩ := y
    exact turn i x T σ H (hx xs (sqT (hl _ _ _ _ p hq))) p nT
theorem paired_get {α β : Type} {F : α → β → Prop} {xs : List α} {ys : List β} (p : Paired F xs ys) : ∀ {i : Nat} {x : α}, xs[i]? = some x → ∃ y, ys[i]? = some y ∧ F x y := by
  induction p with
  | nil => intro i x h; simp at h
  | cons f r ih =>
    intro i x h
    cases i with
    | zero =>
      simp at h
      subst h
      exact ⟨_, rfl, f⟩
    | succ i => exact ih h
theorem paired_imp {α β : Type} {F G : α → β → Prop} (k : ∀ x y, F x y → G x y) : ∀ {xs : List α} {ys : List β}, Paired F xs ys → Paired G xs ys
  | _, _, .nil => .nil
  | _, _, .cons f r => .cons (k _ _ f) (paired_imp k r)
theorem RgsAt.same {H H' : Hp} {rs : List Addr} {gs : List Rung} (h : RgsAt H rs gs) (s : Same H H') : RgsAt H' rs gs := paired_imp (fun _ _ h => h.same s) h
theorem Frm.same {H H' : Hp} {f : Addr} {gs : List Rung} (h : Frm H f gs) (s : Same H H') : Frm H' f gs := by
  obtain ⟨rs, h1, h2, h3⟩ := h
  exact ⟨rs, h1.same s, h2.same s, h3⟩
theorem drop_get {α : Type} {xs : List α} {i : Nat} {x : α} (h : xs[i]? = some x) : xs.drop i = x :: xs.drop (i + 1) := by
  obtain ⟨hi, rfl⟩ := List.getElem?_eq_some_iff.mp h
  exact List.drop_eq_getElem_cons hi
theorem take_get {α : Type} {xs : List α} {i : Nat} {x : α} (h : xs[i]? = some x) : xs.take (i + 1) = xs.take i ++ [x] := by
  rw [List.take_succ, h]
  rfl
section
variable {P : Program} {w : World} {K : PySem.W.Frag} {mg : Str → Option Value} {base : Heap}
theorem ok_check {f fR fN : Addr} {fd fdR fdN : FuncData} {k : Nat} (F : Fun K "check_frame" "check_frame" sCheck f fd) (B : Bl mg) (C : Cn K mg) (X : Xc P K mg) (FR : Fun K "_is_frame_rung" "_is_frame_rung" sRung fR fdR) (bR : Binds K fdR ["rung"] []) (gR : mg "_is_frame_rung" = some (.ref fR))
    (FN : Fun K "is_name" "is_name" sName fN fdN) (bN : Binds K fdN ["value"] []) (gN : mg "is_name" = some (.ref fN)) :
    FnOk P w K mg base (CX P w) (k + 3) f fd ["frame"] (spCheck X.CB X.CM) := by
  have GR : FnOk P w K mg base CX0 (k + 2) fR fdR ["rung"] spRung := ok_rung FR B C FN bN gN
  have GM : FnOk P w K mg base CX0 (k + 1) X.fM X.dM ["self", "limit"] (spMany X.CM) := ok_many X.TM X.nM
  have GB : FnOk P w K mg base CX0 (k + 1) X.fB X.dB ["self", "word", "place"] (spBook X.CB) := ok_book X.TB X.nB X.nB2
  refine F.okX scCheck (fun vs H Q E h => ?_) (fun cdv A outer s H vs Q E hr h => ?_)
  · obtain ⟨f, gs, rfl, _⟩ := h
    rfl
  · obtain ⟨f, gs, rfl, hf, hl, h⟩ := h
    have hu := hu_of hr
    refine ⟨_, pss_cons (ps_if (pt_cmpR op_gt (pe_callB call_len (by rfl) B.len PySem.boot_len (pa_cons (pv 0) pa_nil)) pe_int (nomark _))
        (pss_one (ps_raise rfl (takes_of rfl rfl rfl rfl) (pmk_oex X.TM.O X.TM.iC X.TM.tI GM hr X.bM .nil pass0 (by rfl) X.gM (pa_cons pe_int pa_nil)))) pss_nil)
      (pss_cons (ps_set (i := 1) scCheck.nd rfl (.inl rfl) pe_dnewK)
      (pss_one (ps_for (by passes_own) rfl (pi_enumA (by rfl) B.enum (pa_cons (pv 0) pa_nil)) (pg_tup rfl (pgs_cons (pg_name (i := 2) scCheck.nd rfl (Or.inl rfl)) (pgs_cons (pg_name (i := 3) scCheck.nd rfl (Or.inl rfl)) pgs_nil)))
        (pss_cons (ps_if (PW.pt (pw_or (pt_not (pt_val (pe_call GR hr (by rfl) gR FR.kp bR .nil pass0 (pa_cons (pv 3) pa_nil)))) (pw_or1 (pt_cmp (pc_din hu (pe_ix ix_tup (pv 3) pe_int (fun _ _ => rfl)) (pv 1))))))
          (pss_one (ps_raise rfl (takes_of rfl rfl rfl rfl) (pmk_oex X.TB.O X.TB.iC X.TB.tI GB (hr.mono (by omega)) X.bB .nil pass0 (by rfl) X.gB (pa_cons pe_str (pa_cons (pv 2) pa_nil))))) pss_nil)
        (pss_one (ps_dput hu (pv 1) (pe_ix ix_tup (pv 3) pe_int (fun _ _ => rfl)) pe_bl rfl)))))), ?_⟩
    obtain ⟨rs, hq, hrs, hgood⟩ := hf
    have hlen : rs.length = gs.length := hrs.length
    refine ⟨.ref f, rfl, .ref f, rs.length, rfl, ?_, rs.length, 8, rfl, rfl, _, rfl, ?_⟩
    · exact hq.elim (fun z => .inl ⟨_, sqL z, by rw [List.length_map]⟩) fun z => .inr ⟨_, sqT z, by rw [List.length_map]⟩
    rw [hlen]
    by_cases h8 : 8 < gs.length
    · rw [if_pos h8] at h
      rw [decide_eq_true (show (8 : Int) < (gs.length : Int) by omega)]
      exact iteT (mkO_many h (Same.refl _))
    rw [if_neg h8] at h
    rw [decide_eq_false (show ¬ (8 : Int) < (gs.length : Int) by omega)]
    refine iteF fun d nd => ?_
    have s1 : Same H (upd H d (.dK [])) := same_upd nd
    have nfd : f ≠ d := hq.elim (fun z => ne_of_none z nd) fun z => ne_of_none z nd
    refine ⟨.ref f, rfl, f, rs.map V.ref, rfl, forEnum (D := { nx := fun _ H' => Q V.non H', rt := Q }) (fun i σ H' => (∃ p r, σ = [some (.ref f), some (.ref d), p, r]) ∧ Same H H' ∧ (∃ kvs : List (Key × V), H' d = some (.dK kvs) ∧ kvs.length ≤ i ∧ ∀ z : Str, (valV kvs (Sum.inr z : Key)).isSome = decide (z ∈ (gs.take i).map (·.name))) ∧
        badAt ((gs.take i).map (·.name)) i (gs.drop i) = badAt [] 0 gs) (hq.same s1) ?_ ?_ ?_ ?_⟩
    · exact ⟨⟨none, none, rfl⟩, s1, ⟨[], upd_same, Nat.le_refl _, fun z => rfl⟩, rfl⟩
    · intro i σ H' o p e
      rw [upd_ne nfd] at e
      exact p.2.1 _ _ e
    · intro i x T σ H1 hx p nT
      obtain ⟨⟨p0, r0, rfl⟩, s, ⟨kvs, hd, hk, hv⟩, eb⟩ := p
      rw [List.getElem?_map] at hx
      obtain ⟨r, hr0, rfl⟩ := Option.map_eq_some_iff.mp hx
      obtain ⟨g, hg, hrg⟩ := paired_get hrs hr0
      have ndT : d ≠ T := ne_of_none hd nT
      have s2 : Same H (upd H1 T (.tup [.int (i : Nat), .ref r])) := s.trans (same_upd nT)
      have hgg := hgood g (List.mem_of_getElem? hg)
      obtain ⟨q, hr1, hr2⟩ := hrg.same s2
      have hd2 : upd H1 T (.tup [.int (i : Nat), .ref r]) d = some (.dK kvs) := by
        rw [upd_ne ndT]
        exact hd
      rw [drop_get hg] at eb
      rw [badAt] at eb
      refine ⟨T, _, rfl, sqT upd_same, rfl, .int (i : Nat), _, rfl, .ref r, _, rfl, rfl, ?_⟩
      refine ⟨.ref r, rfl, r, g, rfl, ⟨q, hr1, hr2⟩, hgg, fun H3 s3 => ⟨ascS g.reads, rfl, ?_⟩⟩
      have hi8 : i < 20 := by
        have := (List.getElem?_eq_some_iff.mp hg).1
        omega
      have hd3 := s3 _ _ hd2
      have s4 := s2.trans s3
      have bad : ascS g.reads = false ∨ g.name ∈ (gs.take i).map (·.name) → ∀ H', Same H H' → Rai E X.CB H' [("place", .int (i : Nat)), ("word", .str "frame")] := fun c H' s' => by
        rw [if_pos c] at eb
        rw [← eb] at h
        exact Rai.same h s'
      cases h1 : ascS g.reads with
      | false => exact iteT ⟨.int (i : Nat), rfl, mkO_book (by decide) hi8 (bad (.inl h1) _ s4) (Same.refl _)⟩
      | true =>
        refine iteF ⟨.ref r, rfl, r, _, 1, .str g.name, rfl, rfl, sqT (s3 _ _ hr1), atI_nat (j := 1) rfl, .ref d, rfl, d, _, rfl, DGet.k (k := Sum.inr g.name) hd3, _, rfl, ?_⟩
        rw [hv g.name]
        by_cases hm : g.name ∈ (gs.take i).map (·.name)
        · rw [decide_eq_true hm]
          exact iteT ⟨.int (i : Nat), rfl, mkO_book (by decide) hi8 (bad (.inr hm) _ s4) (Same.refl _)⟩
        · rw [decide_eq_false hm]
          rw [if_neg (by rw [h1]; exact fun z => z.elim (fun z => Bool.noConfusion z) hm)] at eb
          have hnone : valV kvs (Sum.inr g.name : Key) = none := by
            have q := hv g.name
            rw [decide_eq_false hm] at q
            exact Option.isSome_eq_false_iff.mp q |> Option.isNone_iff_eq_none.mp
          refine iteF ⟨.ref d, rfl, .ref r, rfl, r, _, 1, .str g.name, rfl, rfl, sqT (s3 _ _ hr1), atI_nat (j := 1) rfl, d, _, rfl, DPut.k (k := Sum.inr g.name) hd3 (by rw [sizeLine_eq]; omega), ?_⟩
          refine ⟨⟨_, _, rfl⟩, fun b o e => ?_, ⟨_, upd_same, by rw [putK_new _ hnone, List.length_append, List.length_singleton]; omega, fun z => ?_⟩, ?_⟩
          · rw [upd_ne (ne_of_none e nd)]
            exact s4 _ _ e
          · rw [valV_put, take_get hg, List.map_append]
            by_cases hz : (Sum.inr z : Key) = Sum.inr g.name
            · rw [if_pos hz]
              have e2 := Sum.inr.inj hz
              rw [e2]
              simp
            · rw [if_neg hz, hv z]
              have e2 : z ≠ g.name := fun q => hz (by rw [q])
              simp [e2]
          · rw [take_get hg, List.map_append]
            exact eb
    · intro σ H1 p
      obtain ⟨_, s, _, e⟩ := p
      rw [List.length_map, hlen, List.drop_length] at e
      rw [← e] at h
      exact h H1 s
end
end K7

set_option maxRecDepth 100000
set_option maxHeartbeats 4000000
namespace K7
open PySem PySem.Spec PyProof.Rows L2 GX NdefX
/-! ### _check_order, _check_orders -/
def nts (ns : List Nat) : List V := ns.map fun (n : Nat) => V.int (n : Int)
def BadOrd (H : Hp) (x : V) (m : Nat) : Prop := Scal x ∨ ∃ a xs, x = .ref a ∧ Sq H a xs ∧ xs.length ≤ 1000 ∧ (∀ y ∈ xs, (∃ i, y = .int i) ∨ ∃ b, y = .bl b) ∧ ¬ IsOrd xs m
def GoodOrd (H : Hp) (x : V) (m : Nat) : Prop := ∃ a ns, x = .ref a ∧ Sq H a (nts ns) ∧ ns.Perm (List.range m)
theorem BadOrd.same {H H' : Hp} {x : V} {m : Nat} (h : BadOrd H x m) (s : Same H H') : BadOrd H' x m := h.elim .inl fun ⟨a, xs, e, q, r⟩ => .inr ⟨a, xs, e, q.same s, r⟩
theorem GoodOrd.same {H H' : Hp} {x : V} {m : Nat} (h : GoodOrd H x m) (s : Same H H') : GoodOrd H' x m := by
  obtain ⟨a, ns, e, q, r⟩ := h
  exact ⟨a, ns, e, q.same s, r⟩
def spCkOrder (CN : Addr) : Sp := fun vs H Q E => ∃ (f : Addr) (gs : List Rung) (x : V) (z : Str), vs = [.ref f, x, .str z] ∧ Frm H f gs ∧ gs.length ≤ 100 ∧ z.length ≤ 100 ∧
  ((BadOrd H x gs.length ∧ Rai E CN H [("word", .str z)]) ∨ (GoodOrd H x gs.length ∧ ∀ H', Same H H' → Q .non H'))
def FrBad (CB CM : Addr) (E : XK) (H : Hp) (gs : List Rung) : Prop := (8 < gs.length ∧ Rai E CM H [("limit", .int 8)]) ∨ (gs.length ≤ 8 ∧ ∃ i : Nat, badAt [] 0 gs = some i ∧ Rai E CB H [("place", .int (i : Nat)), ("word", .str "frame")])
def FrOk (gs : List Rung) : Prop := gs.length ≤ 8 ∧ badAt [] 0 gs = none
theorem check_bad {CB CM f : Addr} {H : Hp} {gs : List Rung} {Q : VK} {E : XK} (hf : Frm H f gs) (hl : gs.length ≤ 100) (h : FrBad CB CM E H gs) : spCheck CB CM [.ref f] H Q E := by
  refine ⟨f, gs, rfl, hf, hl, ?_⟩
  rcases h with ⟨h8, h⟩ | ⟨h8, i, e, h⟩
  · rw [if_pos h8]
    exact h
  · rw [if_neg (by omega), e]
    exact h
theorem check_ok {CB CM f : Addr} {H : Hp} {gs : List Rung} {Q : VK} {E : XK} (hf : Frm H f gs) (ok : FrOk gs) (h : ∀ H', Same H H' → Q .non H') : spCheck CB CM [.ref f] H Q E := by
  have := ok.1
  refine ⟨f, gs, rfl, hf, by omega, ?_⟩
  rw [if_neg (by omega), ok.2]
  exact h
def spCkOrders (CB CN CM : Addr) : Sp := fun vs H Q E => ∃ (f : Addr) (gs : List Rung) (x y : V), vs = [.ref f, x, y] ∧ Frm H f gs ∧ gs.length ≤ 100 ∧
  (FrBad CB CM E H gs ∨ (FrOk gs ∧ ((BadOrd H x gs.length ∧ Rai E CN H [("word", .str "order")]) ∨ (GoodOrd H x gs.length ∧
    ((BadOrd H y gs.length ∧ Rai E CN H [("word", .str "other")]) ∨ (GoodOrd H y gs.length ∧ ∀ H', Same H H' → Q .non H'))))))
/-- all defs of the program -/
structure Pg (P : Program) (K : PySem.W.Frag) (mg : Str → Option Value) where
  B : Bl mg
  C : Cn K mg
  X : Xc P K mg
  fW : Addr
  dW : FuncData
  W : Fun K "is_whole" "is_whole" sWhole fW dW
  bW : Binds K dW ["value", "least", "most"] []
  gW : mg "is_whole" = some (.ref fW)
  fL : Addr
  dL : FuncData
  L : Fun K "is_listed" "is_listed" sListed fL dL
  bL : Binds K dL ["value"] []
  gL : mg "is_listed" = some (.ref fL)
  fO : Addr
  dO : FuncData
  O : Fun K "is_order" "is_order" sOrder fO dO
  bO : Binds K dO ["order", "many"] []
  gO : mg "is_order" = some (.ref fO)
  fN : Addr
  dN : FuncData
  N : Fun K "is_name" "is_name" sName fN dN
  bN : Binds K dN ["value"] []
  gN : mg "is_name" = some (.ref fN)
  fR : Addr
  dR : FuncData
  R : Fun K "_is_frame_rung" "_is_frame_rung" sRung fR dR
  bR : Binds K dR ["rung"] []
  gR : mg "_is_frame_rung" = some (.ref fR)
  fC : Addr
  dC : FuncData
  Ck : Fun K "check_frame" "check_frame" sCheck fC dC
  bC : Binds K dC ["frame"] []
  gC : mg "check_frame" = some (.ref fC)
  f1 : Addr
  d1 : FuncData
  O1 : Fun K "_check_order" "_check_order" sCkOrder f1 d1
  b1 : Binds K d1 ["frame", "order", "word"] []
  g1 : mg "_check_order" = some (.ref f1)
  f2 : Addr
  d2 : FuncData
  O2 : Fun K "_check_orders" "_check_orders" sCkOrders f2 d2
  b2 : Binds K d2 ["frame", "order", "other"] []
  g2 : mg "_check_orders" = some (.ref f2)
  fT : Addr
  dT : FuncData
  T : Fun K "_touch" "_touch" sTouch fT dT
  bT : Binds K dT ["rung", "other"] []
  gT : mg "_touch" = some (.ref fT)
  f3 : Addr
  d3 : FuncData
  O3 : Fun K "_touching" "_touching" sTouching f3 d3
  b3 : Binds K d3 ["frame"] []
  g3 : mg "_touching" = some (.ref f3)
  f4 : Addr
  d4 : FuncData
  O4 : Fun K "_places_in" "_places_in" sPlaces f4 d4
  b4 : Binds K d4 ["order"] []
  g4 : mg "_places_in" = some (.ref f4)
  f5 : Addr
  d5 : FuncData
  O5 : Fun K "_directions" "_directions" sDirs f5 d5
  b5 : Binds K d5 ["frame", "order"] []
  g5 : mg "_directions" = some (.ref f5)
  f6 : Addr
  d6 : FuncData
  O6 : Fun K "directions" "directions" sDirections f6 d6
  b6 : Binds K d6 ["frame", "order"] []
  g6 : mg "directions" = some (.ref f6)
  f7 : Addr
  d7 : FuncData
  O7 : Fun K "same_for_all" "same_for_all" sSame f7 d7
  b7 : Binds K d7 ["frame", "order", "other"] []
  g7 : mg "same_for_all" = some (.ref f7)
  f8 : Addr
  d8 : FuncData
  O8 : Fun K "swaps" "swaps" sSwaps f8 d8
  b8 : Binds K d8 ["frame", "order", "other"] []
  g8 : mg "swaps" = some (.ref f8)
section
variable {P : Program} {w : World} {K : PySem.W.Frag} {mg : Str → Option Value} {base : Heap}
theorem isOrd_nts {ns : List Nat} {m : Nat} (p : ns.Perm (List.range m)) : IsOrd (nts ns) m := ⟨ns, rfl, p⟩
theorem ok_ckOrder (G : Pg P K mg) : FnOk P w K mg base (CX P w) 3 G.f1 G.d1 ["frame", "order", "word"] (spCkOrder G.X.CN) := by
  have GO : FnOk P w K mg base CX0 2 G.fO G.dO ["order", "many"] spOrder := ok_order G.O G.B G.W G.bW G.gW G.L G.bL G.gL
  have GN : FnOk P w K mg base CX0 1 G.X.fN G.X.dN ["self", "word"] (spNum G.X.CN) := ok_num G.X.TN G.X.nN
  refine G.O1.okX scCkOrder (fun vs H Q E h => ?_) (fun cdv A outer s H vs Q E hr h => ?_)
  · obtain ⟨f, gs, x, z, rfl, _⟩ := h
    rfl
  · obtain ⟨f, gs, x, z, rfl, ⟨rs, hq, hrs, _⟩, hl, hz, h⟩ := h
    refine ⟨_, pss_one (ps_if (pt_not (pt_val (pe_call GO hr (by rfl) G.gO G.O.kp G.bO .nil pass0 (pa_cons (pv 1) (pa_cons (pe_callB call_len (by rfl) G.B.len PySem.boot_len (pa_cons (pv 0) pa_nil)) pa_nil)))))
      (pss_one (ps_raise rfl (takes_of rfl rfl rfl rfl) (pmk_oex G.X.TN.O G.X.TN.iC G.X.TN.tI GN (hr.mono (by decide)) G.X.bN .nil pass0 (by rfl) G.X.gN (pa_cons (pv 2) pa_nil)))) pss_nil), ?_⟩
    have hlen : rs.length = gs.length := hrs.length
    refine ⟨x, rfl, .ref f, rfl, .ref f, gs.length, rfl, ?_, x, gs.length, rfl, by omega, ?_⟩
    · exact hq.elim (fun z => .inl ⟨_, sqL z, by rw [List.length_map, hlen]⟩) fun z => .inr ⟨_, sqT z, by rw [List.length_map, hlen]⟩
    rcases h with ⟨h, hx⟩ | ⟨h, hx⟩
    · rcases h with h | ⟨a, xs, rfl, ha, hn, hy, ho⟩
      · exact .inl ⟨h, fun H' s' => ⟨false, rfl, iteT ⟨.str z, rfl, mkO_num hz hx s'⟩⟩⟩
      · refine .inr ⟨a, xs, rfl, ha, hn, hy, fun H' b s' hb => ⟨b, rfl, ?_⟩⟩
        cases b with
        | true => exact absurd (hb.mp rfl) ho
        | false => exact iteT ⟨.str z, rfl, mkO_num hz hx s'⟩
    · obtain ⟨a, ns, rfl, ha, hp⟩ := h
      have hn : (nts ns).length ≤ 1000 := by
        unfold nts
        rw [List.length_map, hp.length_eq, List.length_range]
        omega
      refine .inr ⟨a, nts ns, rfl, ha, hn, fun y hy => ?_, fun H' b s' hb => ⟨b, rfl, ?_⟩⟩
      · obtain ⟨n, _, rfl⟩ := List.mem_map.mp hy
        exact .inl ⟨_, rfl⟩
      · rw [hb.mpr (isOrd_nts hp)]
        exact iteF (hx H' s')
theorem ok_ckOrders (G : Pg P K mg) : FnOk P w K mg base (CX P w) 4 G.f2 G.d2 ["frame", "order", "other"] (spCkOrders G.X.CB G.X.CN G.X.CM) := by
  have GC : FnOk P w K mg base (CX P w) 3 G.fC G.dC ["frame"] (spCheck G.X.CB G.X.CM) := ok_check G.Ck G.B G.C G.X G.R G.bR G.gR G.N G.bN G.gN
  have GO : FnOk P w K mg base (CX P w) 3 G.f1 G.d1 ["frame", "order", "word"] (spCkOrder G.X.CN) := ok_ckOrder G
  refine G.O2.okX scCkOrders (fun vs H Q E h => ?_) (fun cdv A outer s H vs Q E hr h => ?_)
  · obtain ⟨f, gs, x, y, rfl, _⟩ := h
    rfl
  · obtain ⟨f, gs, x, y, rfl, hf, hl, h⟩ := h
    refine ⟨_, pss_cons (ps_expr (pe_call GC hr (by rfl) G.gC G.Ck.kp G.bC .nil (passes_call (takes_of rfl rfl rfl rfl) (fun _ _ _ _ h => h)) (pa_cons (pv 0) pa_nil)))
      (pss_cons (ps_expr (pe_call GO hr (by rfl) G.g1 G.O1.kp G.b1 .nil (passes_call (takes_of rfl rfl rfl rfl) (fun _ _ _ _ h => h)) (pa_cons (pv 0) (pa_cons (pv 1) (pa_cons pe_str pa_nil)))))
      (pss_one (ps_expr (pe_call GO hr (by rfl) G.g1 G.O1.kp G.b1 .nil (passes_call (takes_of rfl rfl rfl rfl) (fun _ _ _ _ h => h)) (pa_cons (pv 0) (pa_cons (pv 2) (pa_cons pe_str pa_nil))))))), ?_⟩
    rcases h with h | ⟨ok, h⟩
    · refine ⟨.ref f, rfl, ?_⟩
      delta tNil
      exact check_bad hf hl h
    · refine ⟨.ref f, rfl, ?_⟩
      delta tNil
      refine check_ok hf ok fun H1 s1 => ?_
      rcases h with ⟨h, hx⟩ | ⟨hg, h⟩
      · exact ⟨.ref f, rfl, x, rfl, f, gs, x, "order", rfl, hf.same s1, hl, by decide, .inl ⟨h.same s1, hx.same s1⟩⟩
      · refine ⟨.ref f, rfl, x, rfl, f, gs, x, "order", rfl, hf.same s1, hl, by decide, .inr ⟨hg.same s1, fun H2 s2 => ?_⟩⟩
        have s12 := s1.trans s2
        rcases h with ⟨h, hx⟩ | ⟨hg2, hx⟩
        · exact ⟨.ref f, rfl, y, rfl, f, gs, y, "other", rfl, hf.same s12, hl, by decide, .inl ⟨h.same s12, hx.same s12⟩⟩
        · exact ⟨.ref f, rfl, y, rfl, f, gs, y, "other", rfl, hf.same s12, hl, by decide, .inr ⟨hg2.same s12, fun H3 s3 => hx H3 (s12.trans s3)⟩⟩
/-! ### _touch -/
def touchS (g h : Rung) : Bool := decide (g.name ∈ h.reads) || decide (h.name ∈ g.reads)
def spTouch : Sp := fun vs H Q _ => ∃ (r s : Addr) (g h : Rung), vs = [.ref r, .ref s] ∧ RgAt H r g ∧ RgAt H s h ∧ Q (.bl (touchS g h)) H
theorem flat_txs (l : List Str) : (txs l).all flatV = true := by
  rw [List.all_eq_true]
  intro x hx
  obtain ⟨z, _, rfl⟩ := List.mem_map.mp hx
  rfl
theorem inV_txs (z : Str) (l : List Str) : inV (.str z) (txs l) = decide (z ∈ l) := by
  show ((txs l).any fun y => eqV y (.str z)) = _
  unfold txs
  rw [List.any_map]
  induction l with
  | nil => rfl
  | cons x r ih =>
    rw [List.any_cons, ih]
    show ((x == z) || decide (z ∈ r)) = decide (z ∈ x :: r)
    by_cases h : x = z
    · subst h
      simp
    · have h2 : z ≠ x := fun e => h e.symm
      simp [h, h2]
theorem ok_touch (G : Pg P K mg) : FnOk P w K mg base CX0 1 G.fT G.dT ["rung", "other"] spTouch := by
  refine G.T.ok scTouch (fun vs H Q E h => ?_) (fun cdv A outer s H vs Q E hr h => ?_)
  · obtain ⟨f, gs, x, y, rfl, _⟩ := h
    rfl
  · obtain ⟨r, t, g, h, rfl, ⟨q1, h1, h2⟩, ⟨q2, h3, h4⟩, q⟩ := h
    refine ⟨_, pss_one (ps_ret (pe_or (pe_cmpR op_in_seq (pe_ix ix_tup (pv 0) pe_int (fun _ _ => rfl)) (pe_ix ix_tup (pv 1) pe_int (fun _ _ => rfl)) (by rfl))
      (pe_one (pe_cmpR op_in_seq (pe_ix ix_tup (pv 1) pe_int (fun _ _ => rfl)) (pe_ix ix_tup (pv 0) pe_int (fun _ _ => rfl)) (by rfl))))), ?_⟩
    refine ⟨.ref r, rfl, r, _, 1, .str g.name, rfl, rfl, sqT h1, atI_nat (j := 1) rfl, .ref t, rfl, t, _, 0, .ref q2, rfl, rfl, sqT h3, atI_nat (j := 0) rfl, q2, _, rfl, .inr (sqT h4), rfl, flat_txs _, _, rfl, ?_⟩
    have e1 := inV_txs g.name h.reads
    have e2 := inV_txs h.name g.reads
    unfold touchS at q
    cases hm : inV (.str g.name) (txs h.reads) with
    | true =>
      rw [← e1, hm] at q
      exact iteT q
    | false =>
      rw [← e1, hm] at q
      refine iteF ⟨.ref t, rfl, t, _, 1, .str h.name, rfl, rfl, sqT h3, atI_nat (j := 1) rfl, .ref r, rfl, r, _, 0, .ref q1, rfl, rfl, sqT h1, atI_nat (j := 0) rfl, q1, _, rfl, .inr (sqT h2), rfl, flat_txs _, ?_⟩
      rw [← e2] at q
      exact q
end
end K7

set_option maxRecDepth 100000
set_option maxHeartbeats 4000000
namespace K7
open PySem PySem.Spec PyProof.Rows L2 GX NdefX
/-! ### _touching -/
def touchAt (gs : List Rung) (i j : Nat) : Bool := match gs[i]?, gs[j]? with
  | some g, some h => touchS g h
  | _, _ => false
def rowT (gs : List Rung) (j k : Nat) : List (Nat × Nat) := ((List.range k).filter fun i => touchAt gs i j).map fun i => (i, j)
def touchL (gs : List Rung) (n : Nat) : List (Nat × Nat) := (List.range n).flatMap fun j => rowT gs j j
def PairsAt (H : Hp) (ts : List V) (ps : List (Nat × Nat)) : Prop := Paired (fun t (p : Nat × Nat) => ∃ T, t = .ref T ∧ H T = some (.tup [.int (p.1 : Nat), .int (p.2 : Nat)])) ts ps
theorem PairsAt.same {H H' : Hp} {ts : List V} {ps : List (Nat × Nat)} (h : PairsAt H ts ps) (s : Same H H') : PairsAt H' ts ps := paired_imp (fun _ _ ⟨T, e, h⟩ => ⟨T, e, s _ _ h⟩) h
theorem rowT_len (gs : List Rung) (j k : Nat) : (rowT gs j k).length ≤ k := by
  unfold rowT
  rw [List.length_map]
  have := List.length_filter_le (fun i => touchAt gs i j) (List.range k)
  rw [List.length_range] at this
  exact this
theorem touchL_succ (gs : List Rung) (n : Nat) : touchL gs (n + 1) = touchL gs n ++ rowT gs n n := by
  unfold touchL
  rw [List.range_succ, List.flatMap_append]
  simp
theorem touchL_len (gs : List Rung) : ∀ n, (touchL gs n).length ≤ n * n
  | 0 => Nat.le_refl _
  | n + 1 => by
    rw [touchL_succ, List.length_append]
    have h1 := touchL_len gs n
    have h2 := rowT_len gs n n
    rw [Nat.add_mul, Nat.mul_add]
    omega
theorem rowT_succ (gs : List Rung) (j k : Nat) : rowT gs j (k + 1) = rowT gs j k ++ (if touchAt gs k j = true then [(k, j)] else []) := by
  unfold rowT
  rw [List.range_succ, List.filter_append, List.map_append]
  by_cases h : touchAt gs k j = true <;> simp [h]
theorem paired_snoc {α β : Type} {F : α → β → Prop} {xs : List α} {ys : List β} {x : α} {y : β} (p : Paired F xs ys) (f : F x y) : Paired F (xs ++ [x]) (ys ++ [y]) := by
  induction p with
  | nil => exact .cons f .nil
  | cons g r ih => exact .cons g ih
def spTouching : Sp := fun vs H Q _ => ∃ (f : Addr) (gs : List Rung), vs = [.ref f] ∧ Frm H f gs ∧ gs.length ≤ 8 ∧ ∀ D H' ts, Same H H' → H D = none → H' D = some (.lst ts) → PairsAt H' ts (touchL gs gs.length) → Q (.ref D) H'
section
variable {P : Program} {w : World} {K : PySem.W.Frag} {mg : Str → Option Value} {base : Heap}
theorem rIx_sq {H : Hp} {a : Addr} {xs : List V} {i : Nat} {k : Int} {x : V} {Q : VK} (h : Sq H a xs) (hk : k = (i : Int)) (hx : xs[i]? = some x) (q : Q x H) : rIx K (.ref a) (.int k) H Q := by
  subst hk
  rcases h with h | h
  · exact .inl ⟨a, xs, _, x, rfl, rfl, sqL h, atI_nat hx, q⟩
  · exact .inr (.inl ⟨a, xs, _, x, rfl, rfl, sqT h, atI_nat hx, q⟩)
theorem ok_touching (G : Pg P K mg) : FnOk P w K mg base CX0 2 G.f3 G.d3 ["frame"] spTouching := by
  have GT : FnOk P w K mg base CX0 1 G.fT G.dT ["rung", "other"] spTouch := ok_touch G
  refine G.O3.ok scTouching (fun vs H Q E h => ?_) (fun cdv A outer s H vs Q E hr h => ?_)
  · obtain ⟨f, gs, rfl, _⟩ := h
    rfl
  · obtain ⟨f, gs, rfl, ⟨rs, hq, hrs, _⟩, hl, q⟩ := h
    have hlen : rs.length = gs.length := hrs.length
    refine ⟨_, pss_cons (ps_set (i := 1) scTouching.nd rfl (.inl rfl) (pe_callTy cr_range1 (by rfl) G.B.range (by decide +kernel) (pa_cons (pe_callB call_len (by rfl) G.B.len PySem.boot_len (pa_cons (pv 0) pa_nil)) pa_nil)))
      (pss_one (ps_ret (pe_lc2 (own := [("j", 2), ("i", 3)]) (vs1 := [3]) (g := gName 2) (g1 := gName 3) (tt := tYes) rfl scTouching.nd (pi_rngO (pv 1)) (blkOk_by (own := [("j", 2), ("i", 3)]) (N := ["frame", "places", "j", "i"]) (sc := defScope sTouching) (by decide +kernel)) (by decide) (fun _ _ _ _ _ => pg_name (i := 2) scTouching.nd rfl (Or.inl rfl)) (fun _ _ _ _ _ => pts_nil)
        (fun _ _ _ _ _ => pi_range1 (by rfl) G.B.range (pa_cons (pv 2) pa_nil)) (fun _ _ _ _ _ => pg_name (i := 3) scTouching.nd rfl (Or.inl rfl))
        (fun _ _ _ _ _ => pts_one (pt_val (pe_call GT hr (by rfl) G.gT G.T.kp G.bT .nil pass0 (pa_cons (pe_ix (r := rIx K) ix_seq (pv 0) (pv 3) (fun _ _ => rfl)) (pa_cons (pe_ix (r := rIx K) ix_seq (pv 0) (pv 2) (fun _ _ => rfl)) pa_nil)))))
        (fun _ _ _ _ _ => pe_tup (pa_cons (pv 3) (pa_cons (pv 2) pa_nil)))))), ?_⟩
    refine ⟨.ref f, rfl, .ref f, gs.length, rfl, ?_, gs.length, rfl, fun p np => ?_⟩
    · exact hq.elim (fun z => .inl ⟨_, sqL z, by rw [List.length_map, hlen]⟩) fun z => .inr ⟨_, sqT z, by rw [List.length_map, hlen]⟩
    have s0 : Same H (upd H p (.rng 0 (gs.length : Nat))) := same_upd np
    refine ⟨.ref p, rfl, p, 0, gs.length, rfl, upd_same, ⟨by decide, by decide, by omega, by omega⟩, fun D nD => ?_⟩
    have nDp : D ≠ p := fun e => by
      rw [e, upd_same] at nD
      cases nD
    have nDH : H D = none := by
      rw [upd_ne nDp] at nD
      exact nD
    refine ⟨fun i m H2 => m = gs.length - i ∧ i ≤ gs.length ∧ Same (upd H p (.rng 0 (gs.length : Nat))) H2 ∧ ∃ ts, H2 D = some (.lst ts) ∧ PairsAt H2 ts (touchL gs i), ⟨gs.length, rfl, Nat.zero_le _, same_upd nD, [], upd_same, .nil⟩, ?_⟩
    rintro i m H2 ⟨rfl, hi, sm, ts, eD, pt⟩
    by_cases hlt : i < gs.length
    case neg =>
      have e : i = gs.length := by omega
      refine .inl ⟨by show ((gs.length : Int) - 0).toNat ≤ i; omega, q D H2 ts (s0.trans sm) nDH eD ?_⟩
      rw [← e]
      exact pt
    refine .inr ⟨by show i < ((gs.length : Int) - 0).toNat; omega, fun H' => Same (upd H p (.rng 0 (gs.length : Nat))) H' ∧ ∃ ts, H' D = some (.lst ts) ∧ PairsAt H' ts (touchL gs (i + 1)), fun H' q => ⟨gs.length - (i + 1), by omega, rfl, hlt, q.1, q.2⟩, fun x H' y => ?_⟩
    obtain ⟨rfl, rfl⟩ := y
    refine ⟨rfl, ?_⟩
    refine ⟨_, rfl, _, rfl, by omega, by omega, ?_⟩
    refine ⟨fun j k H3 => k = i - j ∧ j ≤ i ∧ Same (upd H p (.rng 0 (gs.length : Nat))) H3 ∧ ∃ ts, H3 D = some (.lst ts) ∧ PairsAt H3 ts (touchL gs i ++ rowT gs i j), ⟨i, rfl, Nat.zero_le _, sm, ts, eD, by
      show PairsAt _ ts (touchL gs i ++ [])
      rw [List.append_nil]
      exact pt⟩, ?_⟩
    rintro j k H3 ⟨rfl, hj, sm3, ts3, eD3, pt3⟩
    by_cases hlj : j < i
    case neg =>
      have e : j = i := by omega
      refine .inl ⟨by show ((0 : Int) + i).toNat ≤ j; omega, sm3, ts3, eD3, ?_⟩
      rw [touchL_succ, ← e]
      rw [← e] at pt3
      exact pt3
    refine .inr ⟨by show j < ((0 : Int) + i).toNat; omega, fun H' => Same (upd H p (.rng 0 (gs.length : Nat))) H' ∧ ∃ ts, H' D = some (.lst ts) ∧ PairsAt H' ts (touchL gs i ++ rowT gs i (j + 1)), fun H' q => ⟨i - (j + 1), by omega, rfl, hlj, q.1, q.2⟩, fun x H' y => ?_⟩
    obtain ⟨rfl, rfl⟩ := y
    refine ⟨rfl, ?_⟩
    have hs3 := s0.trans sm3
    have hq3 := hq.same hs3
    have hrs3 := hrs.same hs3
    obtain ⟨r, hr1⟩ : ∃ r, rs[j]? = some r := ⟨_, List.getElem?_eq_getElem (by omega)⟩
    obtain ⟨t, ht1⟩ : ∃ r, rs[i]? = some r := ⟨_, List.getElem?_eq_getElem (by omega)⟩
    obtain ⟨g, hg, hrg⟩ := paired_get hrs3 hr1
    obtain ⟨h, hh, hth⟩ := paired_get hrs3 ht1
    have eT : touchAt gs j i = touchS g h := by
      unfold touchAt
      rw [hg, hh]
    refine ⟨.ref f, rfl, _, rfl, ?_⟩
    refine rIx_sq hq3 (i := j) (by omega) (x := .ref r) (by rw [List.getElem?_map, hr1]; rfl) ?_
    refine ⟨.ref f, rfl, _, rfl, ?_⟩
    refine rIx_sq hq3 (i := i) (by omega) (x := .ref t) (by rw [List.getElem?_map, ht1]; rfl) ?_
    refine ⟨r, t, g, h, rfl, hrg, hth, _, rfl, ?_⟩
    rw [rowT_succ, eT]
    cases touchS g h with
    | false =>
      refine iteF ⟨sm3, ts3, eD3, ?_⟩
      rw [if_neg (by decide), List.append_nil]
      exact pt3
    | true =>
      refine iteT ⟨_, rfl, _, rfl, by show 2 ≤ sizeLine; decide, fun T nT => ?_⟩
      have nTD : D ≠ T := ne_of_none eD3 nT
      refine ⟨ts3, by rw [upd_ne nTD]; exact eD3, ?_, ?_⟩
      · rw [pt3.length, List.length_append, sizeLine_eq]
        have h1 := touchL_len gs i
        have h2 := rowT_len gs i j
        have h3 : i * i ≤ 8 * 8 := Nat.mul_le_mul (by omega) (by omega)
        omega
      · have sT : Same (upd H p (.rng 0 (gs.length : Nat))) (upd (upd H' T (.tup [.int (0 + (j : Int)), .int (0 + (i : Int))])) D (.lst (ts3 ++ [.ref T]))) := fun b o e => by
          rw [upd_ne (ne_of_none e nD)]
          exact same_upd nT _ _ (sm3 _ _ e)
        refine ⟨sT, _, upd_same, ?_⟩
        rw [if_pos rfl, ← List.append_assoc]
        have old : ∀ b o, b ≠ D → H' b = some o → upd (upd H' T (.tup [.int (0 + (j : Int)), .int (0 + (i : Int))])) D (.lst (ts3 ++ [.ref T])) b = some o := fun b o hb e => by
          rw [upd_ne hb]
          exact same_upd nT _ _ e
        refine paired_snoc (paired_imp (fun u p hu => ?_) pt3) ⟨T, rfl, ?_⟩
        · obtain ⟨U, e, hU⟩ := hu
          refine ⟨U, e, old _ _ (fun z => ?_) hU⟩
          rw [z, eD3] at hU
          cases hU
        · rw [upd_ne nTD.symm, upd_same, Int.zero_add, Int.zero_add]
end
end K7

set_option maxRecDepth 100000
set_option maxHeartbeats 4000000
namespace K7
open PySem PySem.Spec PyProof.Rows L2 GX NdefX
/-! ### dict comprehensions -/
def DcR (J : It) (g : TG) (tt : TT) (tk tv : TE) (vs : List Nat) (σ : L2.St) (H1 : Hp) (Q : VK) : Prop := ∀ D, H1 D = none → ∃ W : Nat → Nat → Hp → Prop, (∃ m, W 0 m (upd H1 D (.dK []))) ∧ ∀ i m H, W i m H →
  (J.stop i H ∧ Q (.ref D) H) ∨ (J.go i H ∧ ∃ Nx : Hp → Prop, (∀ H', Nx H' → ∃ m', m' < m ∧ W (i + 1) m' H') ∧ ∀ x H', J.yld i H x H' → g x (wipe σ vs) H' fun σ2 H2 => wipe σ2 vs = wipe σ vs ∧ tt σ2 H2 fun b H3 =>
    if b = true then tk σ2 H3 fun y H4 => tv σ2 H4 fun z H5 => ∃ (kvs : List (Key × V)) (k : Key), y = kV k ∧ H5 D = some (.dK kvs) ∧ kvs.length < sizeLine ∧ Nx (upd H5 D (.dK (putK kvs k z))) else Nx H3)
def mkD (key : Nat → Key) (val : Nat → V) : Nat → List (Key × V)
  | 0 => []
  | n + 1 => putK (mkD key val n) (key n) (val n)
theorem putK_le (kvs : List (Key × V)) (k : Key) (v : V) : (putK kvs k v).length ≤ kvs.length + 1 := by
  unfold putK
  split
  · rw [List.length_map]
    omega
  · rw [List.length_append]
    exact Nat.le_refl _
theorem mkD_len (key : Nat → Key) (val : Nat → V) : ∀ n, (mkD key val n).length ≤ n
  | 0 => Nat.le_refl _
  | n + 1 => Nat.le_trans (putK_le _ _ _) (by have := mkD_len key val n; omega)
theorem mkD_get (key : Nat → Key) (val : Nat → V) : ∀ n i, i < n → (∀ a b, a < n → b < n → key a = key b → a = b) → valV (mkD key val n) (key i) = some (val i)
  | n + 1, i, h, inj => by
    unfold mkD
    rw [valV_put]
    by_cases e : key i = key n
    · rw [if_pos e]
      have := inj i n h (Nat.lt_succ_self _) e
      rw [this]
    · rw [if_neg e]
      have hi : i < n := by
        rcases Nat.lt_or_ge i n with z | z
        · exact z
        · have : i = n := by omega
          rw [this] at e
          exact absurd rfl e
      exact mkD_get key val n i hi fun a b ha hb => inj a b (by omega) (by omega)
theorem dcGen {J : It} {n : Nat} {g : TG} {tk tv : TE} {vs : List Nat} {σ : L2.St} {H1 : Hp} {Q : VK} (key : Nat → Key) (val : Nat → V) (hn : n ≤ 4000) (go : ∀ i H, i < n → Same H1 H → J.go i H) (stop : ∀ H, Same H1 H → J.stop n H)
    (turn : ∀ i x H H' (Pq : V → V → Hp → Prop), i < n → Same H1 H → J.yld i H x H' → (∀ H5, Same H H5 → Pq (kV (key i)) (val i) H5) → g x (wipe σ vs) H' fun σ2 H2 => wipe σ2 vs = wipe σ vs ∧ tk σ2 H2 fun y H4 => tv σ2 H4 fun z H5 => Pq y z H5)
    (done : ∀ D H, H1 D = none → Same H1 H → H D = some (.dK (mkD key val n)) → Q (.ref D) H) : DcR J g tYes tk tv vs σ H1 Q := by
  intro D nD
  refine ⟨fun i m H => m = n - i ∧ i ≤ n ∧ Same H1 H ∧ H D = some (.dK (mkD key val i)), ⟨n, rfl, Nat.zero_le _, same_upd nD, upd_same⟩, ?_⟩
  rintro i m H ⟨rfl, hi, sm, eD⟩
  by_cases hlt : i < n
  · refine .inr ⟨go i H hlt sm, fun H' => Same H1 H' ∧ H' D = some (.dK (mkD key val (i + 1))), fun H' p => ⟨n - (i + 1), by omega, rfl, hlt, p.1, p.2⟩, fun x H' y => ?_⟩
    refine turn i x H H' _ hlt sm y fun H5 s5 => ⟨mkD key val i, key i, rfl, s5 _ _ eD, ?_, fun b o e => ?_, upd_same⟩
    · have := mkD_len key val i
      rw [sizeLine_eq]
      omega
    · rw [upd_ne (ne_of_none e nD)]
      exact s5 _ _ (sm _ _ e)
  · have e : i = n := by omega
    subst e
    exact .inl ⟨stop H sm, done D H nD sm eD⟩
theorem dcEnum {K : PySem.W.Frag} {a : Addr} {xs : List V} {g : TG} {tk tv : TE} {vs : List Nat} {σ : L2.St} {H1 : Hp} {Q : VK} (key : Nat → Key) (val : Nat → V) (hq : Sq H1 a xs) (hn : xs.length ≤ 4000)
    (turn : ∀ (i : Nat) (x : V) (T : Addr) (H : Hp) (Pq : V → V → Hp → Prop), xs[i]? = some x → Same H1 H → H T = none → (∀ H5, Same (upd H T (.tup [.int (i : Nat), x])) H5 → Pq (kV (key i)) (val i) H5) →
      g (.ref T) (wipe σ vs) (upd H T (.tup [.int (i : Nat), x])) fun σ2 H2 => wipe σ2 vs = wipe σ vs ∧ tk σ2 H2 fun y H4 => tv σ2 H4 fun z H5 => Pq y z H5)
    (done : ∀ D H, H1 D = none → Same H1 H → H D = some (.dK (mkD key val xs.length)) → Q (.ref D) H) :
    (SqL K H1 a xs ∧ DcR (Ite K a) g tYes tk tv vs σ H1 Q) ∨ (SqT K H1 a xs ∧ DcR (IteT K a) g tYes tk tv vs σ H1 Q) := by
  rcases hq with hq | hq
  · refine .inl ⟨sqL hq, dcGen (n := xs.length) key val hn (fun i H h p => ⟨xs, xs[i], sqL (p _ _ hq), List.getElem?_eq_getElem h⟩) (fun H p => ⟨xs, sqL (p _ _ hq), Nat.le_refl _⟩) (fun i x H H' Pq hi p y k => ?_) done⟩
    obtain ⟨T, x, rfl, nT, rfl, hx⟩ := y
    exact turn i x T H Pq (hx xs (sqL (p _ _ hq))) p nT fun H5 s5 => k H5 ((same_upd nT).trans s5)
  · refine .inr ⟨sqT hq, dcGen (n := xs.length) key val hn (fun i H h p => ⟨xs, xs[i], sqT (p _ _ hq), List.getElem?_eq_getElem h⟩) (fun H p => ⟨xs, sqT (p _ _ hq), rfl⟩) (fun i x H H' Pq hi p y k => ?_) done⟩
    obtain ⟨T, x, rfl, nT, rfl, hx⟩ := y
    exact turn i x T H Pq (hx xs (sqT (p _ _ hq))) p nT fun H5 s5 => k H5 ((same_upd nT).trans s5)
/-! ### _places_in -/
/-- where each place stands -/
def Stands (kvs : List (Key × V)) (ns : List Nat) : Prop := ∀ i n : Nat, ns[i]? = some n → valV kvs (Sum.inl (n : Int) : Key) = some (.int (i : Nat))
def spPlaces : Sp := fun vs H Q _ => ∃ (a : Addr) (ns : List Nat), vs = [.ref a] ∧ Sq H a (nts ns) ∧ ns.Nodup ∧ ns.length ≤ 1000 ∧ ∀ D H' kvs, Same H H' → H D = none → H' D = some (.dK kvs) → Stands kvs ns → Q (.ref D) H'
section
variable {P : Program} {w : World} {K : PySem.W.Frag} {mg : Str → Option Value} {base : Heap}
theorem nts_get {ns : List Nat} {i : Nat} {x : V} (h : (nts ns)[i]? = some x) : ∃ n, ns[i]? = some n ∧ x = .int (n : Nat) := by
  unfold nts at h
  rw [List.getElem?_map] at h
  obtain ⟨n, hn, rfl⟩ := Option.map_eq_some_iff.mp h
  exact ⟨n, hn, rfl⟩
theorem ok_places (G : Pg P K mg) : FnOk P w K mg base CX0 1 G.f4 G.d4 ["order"] spPlaces := by
  refine G.O4.ok scPlaces (fun vs H Q E h => ?_) (fun cdv A outer s H vs Q E hr h => ?_)
  · obtain ⟨f, gs, rfl, _⟩ := h
    rfl
  · obtain ⟨a, ns, rfl, hq, nd, hl, q⟩ := h
    refine ⟨_, pss_one (ps_ret (pe_dc (own := [("at", 1), ("place", 2)]) (g := gTup K 2 (gCons (gName 1) (gCons (gName 2) gNil))) (tt := tYes) rfl scPlaces.nd (pi_enumA (by rfl) G.B.enum (pa_cons (pv 0) pa_nil)) (blkOk_by (own := [("at", 1), ("place", 2)]) (N := ["order", "at", "place"]) (sc := defScope sPlaces) (by decide +kernel))
      (fun _ _ _ _ _ => pg_tup rfl (pgs_cons (pg_name (i := 1) scPlaces.nd rfl (Or.inl rfl)) (pgs_cons (pg_name (i := 2) scPlaces.nd rfl (Or.inl rfl)) pgs_nil))) (fun _ _ _ _ _ => pts_nil) (fun _ _ _ _ _ => pv 2) (fun _ _ _ _ _ => pv 1))), ?_⟩
    have hln : (nts ns).length = ns.length := List.length_map _
    refine ⟨.ref a, rfl, a, nts ns, rfl, dcEnum (fun i => Sum.inl ((ns.getD i 0 : Nat) : Int)) (fun i => .int (i : Nat)) hq (by omega) (fun i x T H1 Pq hx s1 nT k => ?_) (fun D H1 nD s1 eD => ?_)⟩
    · obtain ⟨n, hn, rfl⟩ := nts_get hx
      refine ⟨T, _, rfl, sqT upd_same, rfl, .int (i : Nat), _, rfl, .int (n : Nat), _, rfl, rfl, rfl, _, rfl, _, rfl, ?_⟩
      have z := k _ (Same.refl _)
      have e : ns.getD i 0 = n := by
        rw [List.getD_eq_getElem?_getD, hn]
        rfl
      rw [e] at z
      exact z
    · refine q D H1 _ s1 nD eD fun i n hn => ?_
      have hi := (List.getElem?_eq_some_iff.mp hn).1
      have inj : ∀ x y, x < (nts ns).length → y < (nts ns).length → (Sum.inl ((ns.getD x 0 : Nat) : Int) : Key) = Sum.inl ((ns.getD y 0 : Nat) : Int) → x = y := by
        intro x y hx hy e
        have e := Sum.inl.inj e
        rw [hln] at hx hy
        have e2 : ns.getD x 0 = ns.getD y 0 := by omega
        rw [List.getD_eq_getElem?_getD, List.getD_eq_getElem?_getD, List.getElem?_eq_getElem hx, List.getElem?_eq_getElem hy] at e2
        exact (List.getElem_inj (h₀ := hx) (h₁ := hy) nd).mp e2
      have z := mkD_get (fun i => (Sum.inl ((ns.getD i 0 : Nat) : Int) : Key)) (fun i => V.int (i : Nat)) (nts ns).length i (by omega) inj
      have e : ns.getD i 0 = n := by
        rw [List.getD_eq_getElem?_getD, hn]
        rfl
      rw [e] at z
      exact z
end
end K7

set_option maxRecDepth 100000
set_option maxHeartbeats 4000000
namespace K7
open PySem PySem.Spec PyProof.Rows L2 GX NdefX
/-! ### lists of pairs -/
theorem idx_get {ns : List Nat} {n : Nat} (h : n ∈ ns) : ns[ns.idxOf n]? = some n := by
  have h1 := List.idxOf_lt_length_of_mem h
  rw [List.getElem?_eq_getElem h1, List.getElem_idxOf]
theorem none_of_same {H H' : Hp} {l : Addr} (s : Same H H') (n : H' l = none) : H l = none := by
  cases e : H l with
  | none => rfl
  | some o =>
    rw [s _ _ e] at n
    cases n
theorem lcPairs {J : It} {n : Nat} {g : TG} {te : TE} {vs : List Nat} {σ : L2.St} {H1 : Hp} {Q : VK} (pr : Nat → Nat × Nat) (hn : n ≤ 4000) (go : ∀ i H, i < n → Same H1 H → J.go i H) (stop : ∀ H, Same H1 H → J.stop n H)
    (turn : ∀ i x H H' (Qk : VK), i < n → Same H1 H → J.yld i H x H' → (∀ T H4, H T = none → H4 T = some (.tup [.int ((pr i).1 : Nat), .int ((pr i).2 : Nat)]) → Same H H4 → Qk (.ref T) H4) → g x (wipe σ vs) H' fun σ2 H2 => wipe σ2 vs = wipe σ vs ∧ te σ2 H2 Qk)
    (done : ∀ D H ts, H1 D = none → Same H1 H → H D = some (.lst ts) → PairsAt H ts ((List.range n).map pr) → Q (.ref D) H) : LcR J g tYes te vs σ H1 Q := by
  intro D nD
  refine ⟨fun i m H => m = n - i ∧ i ≤ n ∧ Same H1 H ∧ ∃ ts, H D = some (.lst ts) ∧ PairsAt H ts ((List.range i).map pr), ⟨n, rfl, Nat.zero_le _, same_upd nD, [], upd_same, .nil⟩, ?_⟩
  rintro i m H ⟨rfl, hi, sm, ts, eD, pt⟩
  by_cases hlt : i < n
  · refine .inr ⟨go i H hlt sm, fun H' => Same H1 H' ∧ ∃ ts, H' D = some (.lst ts) ∧ PairsAt H' ts ((List.range (i + 1)).map pr), fun H' p => ⟨n - (i + 1), by omega, rfl, hlt, p.1, p.2⟩, fun x H' y => ?_⟩
    refine turn i x H H' _ hlt sm y fun T H4 nT eT s4 => ⟨ts, s4 _ _ eD, ?_, fun b o e => ?_, _, upd_same, ?_⟩
    · rw [pt.length, List.length_map, List.length_range, sizeLine_eq]
      omega
    · rw [upd_ne (ne_of_none e nD)]
      exact s4 _ _ (sm _ _ e)
    · have nTD : D ≠ T := ne_of_none eD nT
      rw [List.range_succ, List.map_append]
      refine paired_snoc (paired_imp (fun u p hu => ?_) pt) ⟨T, rfl, ?_⟩
      · obtain ⟨U, e, hU⟩ := hu
        refine ⟨U, e, ?_⟩
        rw [upd_ne (fun z => by rw [z, eD] at hU; cases hU)]
        exact s4 _ _ hU
      · rw [upd_ne nTD.symm]
        exact eT
  · have e : i = n := by omega
    subst e
    exact .inl ⟨stop H sm, done D H ts nD sm eD pt⟩
def leP (p q : Nat × Nat) : Bool := decide (p.1 < q.1 ∨ (p.1 = q.1 ∧ p.2 ≤ q.2))
def sortP (l : List (Nat × Nat)) : List (Nat × Nat) := l.mergeSort leP
theorem leP_trans (a b c : Nat × Nat) (h1 : leP a b = true) (h2 : leP b c = true) : leP a c = true := by
  unfold leP at *
  rw [decide_eq_true_iff] at *
  omega
theorem leP_total (a b : Nat × Nat) : (leP a b || leP b a) = true := by
  unfold leP
  rw [Bool.or_eq_true, decide_eq_true_iff, decide_eq_true_iff]
  omega
theorem leP_anti {a b : Nat × Nat} (h1 : leP a b = true) (h2 : leP b a = true) : a = b := by
  unfold leP at *
  rw [decide_eq_true_iff] at *
  exact Prod.ext (by omega) (by omega)
theorem sortP_perm (l : List (Nat × Nat)) : (sortP l).Perm l := List.mergeSort_perm l leP
theorem sortP_sorted (l : List (Nat × Nat)) : (sortP l).Pairwise fun a b => leP a b = true := List.pairwise_mergeSort leP_trans leP_total l
theorem sortP_eq {l m : List (Nat × Nat)} (p : m.Perm l) (s : m.Pairwise fun a b => leP a b = true) : m = sortP l :=
  List.Perm.eq_of_pairwise (fun a b _ _ h1 h2 => leP_anti h1 h2) s (sortP_sorted l) (p.trans (sortP_perm l).symm)
/-- what pair of numbers stands at an address -/
def kOf (H : Hp) : V → Int × Int
  | .ref T => match H T with
    | some (.tup [.int i, .int j]) => (i, j)
    | _ => (0, 0)
  | _ => (0, 0)
def kNat (H : Hp) (x : V) : Nat × Nat := ((kOf H x).1.toNat, (kOf H x).2.toNat)
theorem kOf_pair {H : Hp} {T : Addr} {i j : Int} (h : H T = some (.tup [.int i, .int j])) : kOf H (.ref T) = (i, j) := by
  simp only [kOf, h]
theorem pairs_map {H : Hp} {ts : List V} {ps : List (Nat × Nat)} (p : PairsAt H ts ps) : ps = ts.map (kNat H) := by
  induction p with
  | nil => rfl
  | cons f r ih =>
    obtain ⟨T, rfl, h⟩ := f
    rw [List.map_cons, ← ih]
    refine congrArg (· :: _) ?_
    unfold kNat
    rw [kOf_pair h]
    rfl
theorem pairs_mem {H : Hp} {ts : List V} {ps : List (Nat × Nat)} (p : PairsAt H ts ps) : ∀ x ∈ ts, ∃ T, x = .ref T ∧ H T = some (.tup [.int ((kNat H x).1 : Nat), .int ((kNat H x).2 : Nat)]) := by
  induction p with
  | nil => exact fun x h => absurd h (by simp)
  | cons f r ih =>
    intro x hx
    rcases List.mem_cons.mp hx with e | hx
    · obtain ⟨T, e2, h⟩ := f
      subst e2
      subst e
      refine ⟨T, rfl, ?_⟩
      unfold kNat
      rw [kOf_pair h]
      exact h
    · exact ih x hx
theorem paired_self {α β : Type} {F : α → β → Prop} {f : α → β} : ∀ {xs : List α}, (∀ x ∈ xs, F x (f x)) → Paired F xs (xs.map f)
  | [], _ => .nil
  | x :: r, h => .cons (h x List.mem_cons_self) (paired_self fun y hy => h y (List.mem_cons_of_mem _ hy))
/-- what the sorted list of a list of pairs holds -/
theorem sorted_pairs {H : Hp} {xs ys : List V} {ps : List (Nat × Nat)} (p : PairsAt H xs ps) (st : SrtO.Srtd (ltP (kOf H)) ys) (sb : SrtO.Stb (ltP (kOf H)) ys xs) : PairsAt H ys (sortP ps) := by
  have hm := pairs_mem p
  have hy : ∀ y ∈ ys, ∃ T, y = .ref T ∧ H T = some (.tup [.int ((kNat H y).1 : Nat), .int ((kNat H y).2 : Nat)]) := fun y h => hm y (sb.perm.mem_iff.mp h)
  have e : ys.map (kNat H) = sortP ps := by
    refine sortP_eq ?_ ?_
    · rw [pairs_map p]
      exact sb.perm.map _
    · rw [List.pairwise_map]
      refine (List.Pairwise.and_mem.mp st).imp fun h => ?_
      obtain ⟨ha, hb, hlt⟩ := h
      obtain ⟨T, rfl, h1⟩ := hy _ ha
      obtain ⟨U, rfl, h2⟩ := hy _ hb
      have h1 := kOf_pair h1
      have h2 := kOf_pair h2
      unfold ltP SrtO.lexB at hlt
      rw [h1, h2] at hlt
      unfold leP
      rw [decide_eq_true_iff]
      simp at hlt
      split at hlt <;> omega
  rw [← e]
  exact paired_self hy
/-! ### _directions -/
def orient (ns : List Nat) (p : Nat × Nat) : Nat × Nat := if ns.idxOf p.1 < ns.idxOf p.2 then p else (p.2, p.1)
def dirs (gs : List Rung) (ns : List Nat) : List (Nat × Nat) := sortP ((touchL gs gs.length).map (orient ns))
theorem touchL_mem {gs : List Rung} {n : Nat} {p : Nat × Nat} (h : p ∈ touchL gs n) : p.1 < p.2 ∧ p.2 < n ∧ touchAt gs p.1 p.2 = true := by
  unfold touchL rowT at h
  obtain ⟨j, hj, h⟩ := List.mem_flatMap.mp h
  obtain ⟨i, hi, rfl⟩ := List.mem_map.mp h
  obtain ⟨hi, ht⟩ := List.mem_filter.mp hi
  exact ⟨List.mem_range.mp hi, List.mem_range.mp hj, ht⟩
def spDirs : Sp := fun vs H Q _ => ∃ (f a : Addr) (gs : List Rung) (ns : List Nat), vs = [.ref f, .ref a] ∧ Frm H f gs ∧ gs.length ≤ 8 ∧ Sq H a (nts ns) ∧ ns.Perm (List.range gs.length) ∧
  ∀ D H' ts, Same H H' → H D = none → H' D = some (.tup ts) → PairsAt H' ts (dirs gs ns) → Q (.ref D) H'
section
variable {P : Program} {w : World} {K : PySem.W.Frag} {mg : Str → Option Value} {base : Heap}
theorem ok_dirs (G : Pg P K mg) : FnOk P w K mg base CX0 3 G.f5 G.d5 ["frame", "order"] spDirs := by
  have GT : FnOk P w K mg base CX0 2 G.f3 G.d3 ["frame"] spTouching := ok_touching G
  have GP : FnOk P w K mg base CX0 1 G.f4 G.d4 ["order"] spPlaces := ok_places G
  refine G.O5.ok scDirs (fun vs H Q E h => ?_) (fun cdv A outer s H vs Q E hr h => ?_)
  · obtain ⟨f, a, gs, ns, rfl, _⟩ := h
    rfl
  · obtain ⟨f, a, gs, ns, rfl, hf, hl, hq, hp, q⟩ := h
    have hu := hu_of hr
    refine ⟨_, pss_cons (ps_set (i := 2) scDirs.nd rfl (.inr rfl) (pe_call GP (hr.mono (by decide)) (by rfl) G.g4 G.O4.kp G.b4 .nil pass0 (pa_cons (pv 1) pa_nil)))
      (pss_one (ps_ret (pe_callTy call_tuple_of (by rfl) G.B.tuple (by decide +kernel) (pa_cons (pe_callB cr_sortedPO (by rfl) G.B.sorted (by decide +kernel) (pa_cons
        (pe_lc (own := [("i", 3), ("j", 4)]) (g := gTup K 2 (gCons (gName 3) (gCons (gName 4) gNil))) (tt := tYes) rfl scDirs.nd (pi_list (pe_call GT hr (by rfl) G.g3 G.O3.kp G.b3 .nil pass0 (pa_cons (pv 0) pa_nil))) (blkOk_by (own := [("i", 3), ("j", 4)]) (N := ["frame", "order", "stands", "i", "j"]) (sc := defScope sDirs) (by decide +kernel))
          (fun _ _ _ _ _ => pg_tup rfl (pgs_cons (pg_name (i := 3) scDirs.nd rfl (Or.inl rfl)) (pgs_cons (pg_name (i := 4) scDirs.nd rfl (Or.inl rfl)) pgs_nil))) (fun _ _ _ _ _ => pts_nil)
          (fun _ _ _ _ _ => pe_ifExp (pt_cmpR op_lt (pe_dget hu (pv 2) (pv 3) (fun _ _ => rfl)) (pe_dget hu (pv 2) (pv 4) (fun _ _ => rfl)) (nomark _)) (pe_tup (pa_cons (pv 3) (pa_cons (pv 4) pa_nil))) (pe_tup (pa_cons (pv 4) (pa_cons (pv 3) pa_nil)))))
        pa_nil)) pa_nil)))), ?_⟩
    have hns : ns.Nodup := hp.nodup_iff.mpr List.nodup_range
    have hnl : ns.length = gs.length := by rw [hp.length_eq, List.length_range]
    refine ⟨.ref a, rfl, a, ns, rfl, hq, hns, by omega, fun d H1 kvs s1 nd ed hs => ?_⟩
    refine ⟨.ref f, rfl, f, gs, rfl, hf.same s1, hl, fun L H2 ts s2 nL eL pt => ?_⟩
    have ed2 := s2 _ _ ed
    have hlt := touchL_len gs gs.length
    have h64 : gs.length * gs.length ≤ 8 * 8 := Nat.mul_le_mul hl hl
    have hlen := pt.length
    have key : LcR (Itl K L) (gTup K 2 (gCons (gName 3) (gCons (gName 4) gNil))) tYes (tIf (tTest (tOp (rI0 fun i j => V.bl (decide (i < j))) (tDGet (tVar 2) (tVar 3)) (tDGet (tVar 2) (tVar 4)))) (tTup (tCons (tVar 3) (tCons (tVar 4) tNil))) (tTup (tCons (tVar 4) (tCons (tVar 3) tNil)))) [3, 4]
        [some (.ref f), some (.ref a), some (.ref d), none, none] H2 (fun v H' => rSortedPO K [v] H' fun v H' => (∃ p ys, [v] = [V.ref p] ∧ ((SqL K H' p ys ∧ ∀ l, H' l = none → Q (.ref l) (upd H' l (.tup ys))) ∨ (SqT K H' p ys ∧ Q (.ref p) H')))) := by
      refine lcPairs (n := ts.length) (fun i => orient ns ((touchL gs gs.length).getD i (0, 0))) (by omega) (fun i H3 h s3 => ⟨ts, ts[i], sqL (s3 _ _ eL), List.getElem?_eq_getElem h⟩) (fun H3 s3 => ⟨ts, sqL (s3 _ _ eL), Nat.le_refl _⟩) (fun i x H3 H' Qk h s3 y hk => ?_) (fun D H3 us nD s3 eD pu => ?_)
      · obtain ⟨rfl, hx⟩ := y
        have hx := hx ts (sqL (s3 _ _ eL))
        obtain ⟨p, hp1, T, rfl, hT⟩ := paired_get pt hx
        have hT3 := s3 _ _ hT
        have ed3 := s3 _ _ ed2
        have hm := touchL_mem (List.mem_of_getElem? hp1)
        have hin : ∀ n, n < gs.length → n ∈ ns := fun n hn => hp.mem_iff.mpr (List.mem_range.mpr hn)
        have g1 := hs (ns.idxOf p.1) p.1 (idx_get (hin _ (by omega)))
        have g2 := hs (ns.idxOf p.2) p.2 (idx_get (hin _ (by omega)))
        have eg : (touchL gs gs.length).getD i (0, 0) = p := by
          rw [List.getD_eq_getElem?_getD, hp1]
          rfl
        rw [eg] at hk
        refine ⟨T, _, rfl, sqT hT3, rfl, .int (p.1 : Nat), _, rfl, .int (p.2 : Nat), _, rfl, rfl, rfl, ?_⟩
        refine ⟨_, rfl, _, rfl, d, .int (ns.idxOf p.1 : Nat), rfl, ?_, _, rfl, _, rfl, d, .int (ns.idxOf p.2 : Nat), rfl, ?_, _, _, rfl, rfl, _, rfl, ?_⟩
        · rw [← g1]
          exact DGet.k (k := Sum.inl (p.1 : Int)) ed3
        · rw [← g2]
          exact DGet.k (k := Sum.inl (p.2 : Int)) ed3
        unfold orient at hk
        by_cases hlt2 : ns.idxOf p.1 < ns.idxOf p.2
        · rw [if_pos hlt2] at hk
          rw [decide_eq_true (by omega)]
          exact iteT ⟨_, rfl, _, rfl, by show 2 ≤ sizeLine; decide, fun U nU => hk U _ nU upd_same (same_upd nU)⟩
        · rw [if_neg hlt2] at hk
          rw [decide_eq_false (by omega)]
          exact iteF ⟨_, rfl, _, rfl, by show 2 ≤ sizeLine; decide, fun U nU => hk U _ nU upd_same (same_upd nU)⟩
      · have eps : (List.range ts.length).map (fun i => orient ns ((touchL gs gs.length).getD i (0, 0))) = (touchL gs gs.length).map (orient ns) := by
          rw [hlen]
          refine List.ext_getElem (by rw [List.length_map, List.length_map, List.length_range]) fun i h1 h2 => ?_
          rw [List.length_map] at h2
          rw [List.getElem_map, List.getElem_map, List.getElem_range, List.getD_eq_getElem?_getD, List.getElem?_eq_getElem h2]
          rfl
        rw [eps] at pu
        refine ⟨D, us, kOf H3, rfl, sqL eD, fun x hx => ?_, fun ys p st sb np => ?_⟩
        · obtain ⟨T, rfl, hT⟩ := pairs_mem pu x hx
          refine ⟨T, rfl, ?_⟩
          rw [kOf_pair hT]
          exact hT
        · have pys := sorted_pairs pu st sb
          refine ⟨p, ys, rfl, .inl ⟨sqL upd_same, fun l nl => ?_⟩⟩
          have s4 : Same H3 (upd H3 p (.lst ys)) := same_upd np
          have s5 := s4.trans (same_upd nl (o := .tup ys))
          refine q l _ ys (((s1.trans s2).trans s3).trans s5) ?_ upd_same (pys.same s5)
          exact none_of_same (((s1.trans s2).trans s3).trans s4) nl
    exact ⟨L, rfl, ⟨ts, sqL eL⟩, key⟩
end
end K7

set_option maxRecDepth 100000
set_option maxHeartbeats 4000000
namespace K7
open PySem PySem.Spec PyProof.Rows L2 GX NdefX
/-! ### tuples of pairs as data -/
def pdP (p : Nat × Nat) : PyData := .tuple [.int (p.1 : Nat), .int (p.2 : Nat)]
theorem dpPairs {K : PySem.W.Frag} {H : Hp} {ts : List V} {ps : List (Nat × Nat)} (p : PairsAt H ts ps) : DpAll K H ts (ps.map pdP) := by
  induction p with
  | nil => exact .nil
  | cons f r ih =>
    obtain ⟨T, rfl, h⟩ := f
    exact .cons (.tup (sqT h) (.cons (.int _) (.cons (.int _) .nil))) ih
theorem canPairs : ∀ ps : List (Nat × Nat), PyData.canLayAll0 (ps.map pdP) = true
  | [] => rfl
  | p :: r => by
    show (PyData.canLay0 (pdP p) && PyData.canLayAll0 (r.map pdP)) = true
    rw [canPairs r]
    rfl
theorem depPairs : ∀ ps : List (Nat × Nat), PyData.depthAll (ps.map pdP) ≤ 1
  | [] => Nat.zero_le _
  | p :: r => by
    show max (PyData.depth (pdP p)) (PyData.depthAll (r.map pdP)) ≤ 1
    have h1 := depPairs r
    have h2 : PyData.depth (pdP p) = 1 := rfl
    omega
theorem shPairs (ps : List (Nat × Nat)) : SeqAt.shaped (.tuple (ps.map pdP)) = true := by
  unfold SeqAt.shaped
  rw [show PyData.canLay0 (.tuple (ps.map pdP)) = PyData.canLayAll0 (ps.map pdP) from rfl, canPairs, Bool.true_and, decide_eq_true_eq]
  show PyData.depthAll (ps.map pdP) + 1 ≤ 64
  have := depPairs ps
  omega
theorem eqvPair (p q : Nat × Nat) : PyData.eqv (pdP p) (pdP q) = decide (p = q) := by
  unfold pdP
  rw [PyData.eqv, PyData.eqvAll, PyData.eqvAll, PyData.eqvAll, PyData.eqv, PyData.eqv]
  obtain ⟨a, b⟩ := p
  obtain ⟨c, d⟩ := q
  by_cases h1 : a = c
  · subst h1
    by_cases h2 : b = d
    · subst h2
      simp
    · simp [h2]
      omega
  · simp [h1]
    omega
theorem eqvPairs : ∀ xs ys : List (Nat × Nat), PyData.eqvAll (xs.map pdP) (ys.map pdP) = decide (xs = ys)
  | [], [] => by simp [PyData.eqvAll]
  | [], _ :: _ => by simp [PyData.eqvAll]
  | _ :: _, [] => by simp [PyData.eqvAll]
  | x :: xs, y :: ys => by
    rw [List.map_cons, List.map_cons, PyData.eqvAll, eqvPairs xs ys, eqvPair]
    by_cases h : x = y
    · subst h
      by_cases h2 : xs = ys <;> simp [h2]
    · simp [h]
theorem eqvTP (xs ys : List (Nat × Nat)) : PyData.eqv (.tuple (xs.map pdP)) (.tuple (ys.map pdP)) = decide (xs = ys) := by
  rw [PyData.eqv, eqvPairs]
/-! ### directions, same_for_all -/
def Ord (H : Hp) (x : V) (ns : List Nat) (m : Nat) : Prop := ∃ a, x = .ref a ∧ Sq H a (nts ns) ∧ ns.Perm (List.range m)
theorem Ord.same {H H' : Hp} {x : V} {ns : List Nat} {m : Nat} (h : Ord H x ns m) (s : Same H H') : Ord H' x ns m := by
  obtain ⟨a, e, q, r⟩ := h
  exact ⟨a, e, q.same s, r⟩
theorem Ord.good {H : Hp} {x : V} {ns : List Nat} {m : Nat} (h : Ord H x ns m) : GoodOrd H x m := by
  obtain ⟨a, e, q, r⟩ := h
  exact ⟨a, ns, e, q, r⟩
def spDirections (CB CN CM : Addr) : Sp := fun vs H Q E => ∃ (f : Addr) (gs : List Rung) (x : V), vs = [.ref f, x] ∧ Frm H f gs ∧ gs.length ≤ 100 ∧
  (FrBad CB CM E H gs ∨ (FrOk gs ∧ ((BadOrd H x gs.length ∧ Rai E CN H [("word", .str "order")]) ∨ ∃ ns, Ord H x ns gs.length ∧
    ∀ D H' ts, Same H H' → H D = none → H' D = some (.tup ts) → PairsAt H' ts (dirs gs ns) → Q (.ref D) H')))
/-- what comes behind the checks of two orders -/
def Two (CB CN CM : Addr) (E : XK) (H : Hp) (gs : List Rung) (x y : V) (R : List Nat → List Nat → Prop) : Prop :=
  FrBad CB CM E H gs ∨ (FrOk gs ∧ ((BadOrd H x gs.length ∧ Rai E CN H [("word", .str "order")]) ∨ (GoodOrd H x gs.length ∧ BadOrd H y gs.length ∧ Rai E CN H [("word", .str "other")]) ∨ ∃ ns ms, Ord H x ns gs.length ∧ Ord H y ms gs.length ∧ R ns ms))
def spSame (CB CN CM : Addr) : Sp := fun vs H Q E => ∃ (f : Addr) (gs : List Rung) (x y : V), vs = [.ref f, x, y] ∧ Frm H f gs ∧ gs.length ≤ 100 ∧
  Two CB CN CM E H gs x y fun ns ms => ∀ H', Same H H' → Q (.bl (decide (dirs gs ns = dirs gs ms))) H'
section
variable {P : Program} {w : World} {K : PySem.W.Frag} {mg : Str → Option Value} {base : Heap}
theorem two_ck {CB CN CM f : Addr} {H : Hp} {gs : List Rung} {x y : V} {Q : VK} {E : XK} {R : List Nat → List Nat → Prop} (hf : Frm H f gs) (hl : gs.length ≤ 100) (h : Two CB CN CM E H gs x y R)
    (q : ∀ ns ms H', FrOk gs → Ord H x ns gs.length → Ord H y ms gs.length → R ns ms → Same H H' → Q .non H') : spCkOrders CB CN CM [.ref f, x, y] H Q E := by
  refine ⟨f, gs, x, y, rfl, hf, hl, ?_⟩
  rcases h with h | ⟨ok, ⟨h, e⟩ | ⟨g, h, e⟩ | ⟨ns, ms, h1, h2, r⟩⟩
  · exact .inl h
  · exact .inr ⟨ok, .inl ⟨h, e⟩⟩
  · exact .inr ⟨ok, .inr ⟨g, .inl ⟨h, e⟩⟩⟩
  · exact .inr ⟨ok, .inr ⟨h1.good, .inr ⟨h2.good, fun H' s => q ns ms H' ok h1 h2 r s⟩⟩⟩
theorem ok_directions (G : Pg P K mg) : FnOk P w K mg base (CX P w) 4 G.f6 G.d6 ["frame", "order"] (spDirections G.X.CB G.X.CN G.X.CM) := by
  have GC : FnOk P w K mg base (CX P w) 3 G.fC G.dC ["frame"] (spCheck G.X.CB G.X.CM) := ok_check G.Ck G.B G.C G.X G.R G.bR G.gR G.N G.bN G.gN
  have GO : FnOk P w K mg base (CX P w) 3 G.f1 G.d1 ["frame", "order", "word"] (spCkOrder G.X.CN) := ok_ckOrder G
  have GD : FnOk P w K mg base CX0 3 G.f5 G.d5 ["frame", "order"] spDirs := ok_dirs G
  refine G.O6.okX scDirections (fun vs H Q E h => ?_) (fun cdv A outer s H vs Q E hr h => ?_)
  · obtain ⟨f, gs, x, rfl, _⟩ := h
    rfl
  · obtain ⟨f, gs, x, rfl, hf, hl, h⟩ := h
    refine ⟨_, pss_cons (ps_expr (pe_call GC hr (by rfl) G.gC G.Ck.kp G.bC .nil (passes_call (takes_of rfl rfl rfl rfl) (fun _ _ _ _ h => h)) (pa_cons (pv 0) pa_nil)))
      (pss_cons (ps_expr (pe_call GO hr (by rfl) G.g1 G.O1.kp G.b1 .nil (passes_call (takes_of rfl rfl rfl rfl) (fun _ _ _ _ h => h)) (pa_cons (pv 0) (pa_cons (pv 1) (pa_cons pe_str pa_nil)))))
      (pss_one (ps_ret (pe_call GD hr (by rfl) G.g5 G.O5.kp G.b5 .nil pass0 (pa_cons (pv 0) (pa_cons (pv 1) pa_nil)))))), ?_⟩
    rcases h with h | ⟨ok, h⟩
    · refine ⟨.ref f, rfl, ?_⟩
      delta tNil
      exact check_bad hf hl h
    · refine ⟨.ref f, rfl, ?_⟩
      delta tNil
      refine check_ok hf ok fun H1 s1 => ?_
      rcases h with ⟨h, hx⟩ | ⟨ns, hg, h⟩
      · exact ⟨.ref f, rfl, x, rfl, f, gs, x, "order", rfl, hf.same s1, hl, by decide, .inl ⟨h.same s1, hx.same s1⟩⟩
      · refine ⟨.ref f, rfl, x, rfl, f, gs, x, "order", rfl, hf.same s1, hl, by decide, .inr ⟨hg.good.same s1, fun H2 s2 => ?_⟩⟩
        have s12 := s1.trans s2
        obtain ⟨a, rfl, hq, hp⟩ := hg
        exact ⟨.ref f, rfl, .ref a, rfl, f, a, gs, ns, rfl, hf.same s12, ok.1, hq.same s12, hp, fun D H3 ts s3 nD eD pt => h D H3 ts (s12.trans s3) (none_of_same s12 nD) eD pt⟩
theorem ok_same (G : Pg P K mg) : FnOk P w K mg base (CX P w) 5 G.f7 G.d7 ["frame", "order", "other"] (spSame G.X.CB G.X.CN G.X.CM) := by
  have GC : FnOk P w K mg base (CX P w) 4 G.f2 G.d2 ["frame", "order", "other"] (spCkOrders G.X.CB G.X.CN G.X.CM) := ok_ckOrders G
  have GD : FnOk P w K mg base CX0 3 G.f5 G.d5 ["frame", "order"] spDirs := ok_dirs G
  refine G.O7.okX scSame (fun vs H Q E h => ?_) (fun cdv A outer s H vs Q E hr h => ?_)
  · obtain ⟨f, gs, x, y, rfl, _⟩ := h
    rfl
  · obtain ⟨f, gs, x, y, rfl, hf, hl, h⟩ := h
    refine ⟨_, pss_cons (ps_expr (pe_call GC hr (by rfl) G.g2 G.O2.kp G.b2 .nil (passes_call (takes_of rfl rfl rfl rfl) (fun _ _ _ _ h => h)) (pa_cons (pv 0) (pa_cons (pv 1) (pa_cons (pv 2) pa_nil)))))
      (pss_one (ps_ret (pe_cmpR (op_eqD hr.units) (pe_call GD (hr.mono (by decide)) (by rfl) G.g5 G.O5.kp G.b5 .nil pass0 (pa_cons (pv 0) (pa_cons (pv 1) pa_nil))) (pe_call GD (hr.mono (by decide)) (by rfl) G.g5 G.O5.kp G.b5 .nil pass0 (pa_cons (pv 0) (pa_cons (pv 2) pa_nil))) (nomark _)))), ?_⟩
    refine ⟨.ref f, rfl, x, rfl, y, rfl, ?_⟩
    delta tNil
    refine two_ck hf hl h fun ns ms H1 ok h1 h2 r s1 => ?_
    obtain ⟨a, rfl, ha, pa⟩ := h1
    obtain ⟨b, rfl, hb, pb⟩ := h2
    refine ⟨.ref f, rfl, .ref a, rfl, f, a, gs, ns, rfl, hf.same s1, ok.1, ha.same s1, pa, fun D H2 ts s2 nD eD pt => ?_⟩
    have s12 := s1.trans s2
    refine ⟨.ref f, rfl, .ref b, rfl, f, b, gs, ms, rfl, hf.same s12, ok.1, hb.same s12, pb, fun D2 H3 us s3 nD2 eD2 pu => ?_⟩
    refine ⟨.tuple ((dirs gs ns).map pdP), .tuple ((dirs gs ms).map pdP), .tup (sqT (s3 _ _ eD)) (dpPairs (pt.same s3)), .tup (sqT eD2) (dpPairs pu), shPairs _, shPairs _, ?_⟩
    rw [eqvTP]
    exact r H3 (s12.trans s3)
end
end K7

set_option maxRecDepth 100000
set_option maxHeartbeats 4000000
namespace K7
open PySem PySem.Spec PyProof.Rows L2 GX NdefX
/-! ### swaps -/
def swp (l : List Nat) (i : Nat) : List Nat := (l.set i (l.getD (i + 1) 0)).set (i + 1) (l.getD i 0)
def stepB (st : List Nat × List Nat) (i : Nat) : List Nat × List Nat := if st.1.getD (i + 1) 0 < st.1.getD i 0 then (swp st.1 i, st.2 ++ [i]) else st
def inB (st : List Nat × List Nat) (j : Nat) : List Nat × List Nat := (List.range j).foldl stepB st
def outB (st : List Nat × List Nat) (n i : Nat) : List Nat × List Nat := (List.range i).foldl (fun st k => inB st (n - 1 - k)) st
def told (ns ms : List Nat) : List Nat := (outB (ns.map fun n => ms.idxOf n, []) ns.length (ns.length - 1)).2
theorem inB_succ (st : List Nat × List Nat) (j : Nat) : inB st (j + 1) = stepB (inB st j) j := by
  unfold inB
  rw [List.range_succ, List.foldl_append]
  rfl
theorem outB_succ (st : List Nat × List Nat) (n i : Nat) : outB st n (i + 1) = inB (outB st n i) (n - 1 - i) := by
  unfold outB
  rw [List.range_succ, List.foldl_append]
  rfl
theorem stepB_len (st : List Nat × List Nat) (i : Nat) : (stepB st i).1.length = st.1.length ∧ (stepB st i).2.length ≤ st.2.length + 1 := by
  unfold stepB
  split
  · refine ⟨?_, by rw [List.length_append]; exact Nat.le_refl _⟩
    unfold swp
    rw [List.length_set, List.length_set]
  · exact ⟨rfl, by omega⟩
theorem inB_len (st : List Nat × List Nat) : ∀ j, (inB st j).1.length = st.1.length ∧ (inB st j).2.length ≤ st.2.length + j
  | 0 => ⟨rfl, Nat.le_refl _⟩
  | j + 1 => by
    have h1 := inB_len st j
    have h2 := stepB_len (inB st j) j
    rw [inB_succ]
    omega
theorem outB_len (st : List Nat × List Nat) (n : Nat) (hn : n ≤ 8) : ∀ i, (outB st n i).1.length = st.1.length ∧ (outB st n i).2.length ≤ st.2.length + i * 8
  | 0 => ⟨rfl, by show st.2.length ≤ st.2.length + 0 * 8; omega⟩
  | i + 1 => by
    have h1 := outB_len st n hn i
    have h2 := inB_len (outB st n i) (n - 1 - i)
    rw [outB_succ]
    omega
def spSwaps (CB CN CM : Addr) : Sp := fun vs H Q E => ∃ (f : Addr) (gs : List Rung) (x y : V), vs = [.ref f, x, y] ∧ Frm H f gs ∧ gs.length ≤ 100 ∧
  Two CB CN CM E H gs x y fun ns ms => (dirs gs ns ≠ dirs gs ms ∧ ∀ H', Same H H' → Q .non H') ∨ (dirs gs ns = dirs gs ms ∧ ∀ D H', Same H H' → H D = none → H' D = some (.tup (nts (told ns ms))) → Q (.ref D) H')
section
variable {P : Program} {w : World} {K : PySem.W.Frag} {mg : Str → Option Value} {base : Heap}
theorem nts_set (l : List Nat) (i n : Nat) : (nts l).set i (.int (n : Nat)) = nts (l.set i n) := by
  unfold nts
  rw [List.map_set]
theorem ixN_nat {n i : Nat} (h : i < n) : ixN n (i : Int) = some i := by
  unfold ixN
  rw [if_pos (by omega), if_pos (by omega)]
  rfl
theorem nts_at {l : List Nat} {i : Nat} (h : i < l.length) : atI (nts l) (i : Int) = some (.int (l.getD i 0 : Nat)) := by
  refine atI_nat ?_
  unfold nts
  rw [List.getElem?_map, List.getElem?_eq_getElem h, List.getD_eq_getElem?_getD, List.getElem?_eq_getElem h]
  rfl
theorem nts_len (l : List Nat) : (nts l).length = l.length := List.length_map _
theorem ok_swaps (G : Pg P K mg) : FnOk P w K mg base (CX P w) 5 G.f8 G.d8 ["frame", "order", "other"] (spSwaps G.X.CB G.X.CN G.X.CM) := by
  have GC : FnOk P w K mg base (CX P w) 4 G.f2 G.d2 ["frame", "order", "other"] (spCkOrders G.X.CB G.X.CN G.X.CM) := ok_ckOrders G
  have GD : FnOk P w K mg base CX0 3 G.f5 G.d5 ["frame", "order"] spDirs := ok_dirs G
  have GP : FnOk P w K mg base CX0 1 G.f4 G.d4 ["order"] spPlaces := ok_places G
  refine G.O8.okX scSwaps (fun vs H Q E h => ?_) (fun cdv A outer s H vs Q E hr h => ?_)
  · obtain ⟨f, gs, x, y, rfl, _⟩ := h
    rfl
  · obtain ⟨f, gs, x, y, rfl, hf, hl, h⟩ := h
    have hu := hu_of hr
    refine ⟨_, pss_cons (ps_expr (pe_call GC hr (by rfl) G.g2 G.O2.kp G.b2 .nil (passes_call (takes_of rfl rfl rfl rfl) (fun _ _ _ _ h => h)) (pa_cons (pv 0) (pa_cons (pv 1) (pa_cons (pv 2) pa_nil)))))
      (pss_cons (ps_if (pt_cmpR (op_neD hr.units) (pe_call GD (hr.mono (by decide)) (by rfl) G.g5 G.O5.kp G.b5 .nil pass0 (pa_cons (pv 0) (pa_cons (pv 1) pa_nil))) (pe_call GD (hr.mono (by decide)) (by rfl) G.g5 G.O5.kp G.b5 .nil pass0 (pa_cons (pv 0) (pa_cons (pv 2) pa_nil))) (nomark _)) (pss_one (ps_ret pe_non)) pss_nil)
      (pss_cons (ps_set (i := 3) scSwaps.nd rfl (.inr rfl) (pe_call GP (hr.mono (by decide)) (by rfl) G.g4 G.O4.kp G.b4 .nil pass0 (pa_cons (pv 2) pa_nil)))
      (pss_cons (PS.imp (t' := fun D σ H => tMapSeq 1 8 (tDGet (tVar 3) (tVar 8)) σ H fun x H1 => gName 4 x σ H1 D.nx)
        (ps_setLc (i := 4) (own := [("place", 8)]) (g := gName 8) (tt := tYes) rfl scSwaps.nd rfl rfl (sw_true rfl rfl rfl (by decide +kernel)) (pi_seq (pv 1)) (blkOk_by (own := [("place", 8)]) (N := ["frame", "order", "other", "goal", "stands", "told", "end", "at", "place"]) (sc := defScope sSwaps) (by decide +kernel)) (fun _ _ _ _ _ => pg_name (i := 8) scSwaps.nd rfl (Or.inl rfl)) (fun _ _ _ _ _ => pts_nil) (fun _ _ _ _ _ => pe_dget hu (pv 3) (pv 8) (fun _ _ => rfl))) (fun _ _ _ h => tMapSeq_ok h))
      (pss_cons (ps_set (i := 5) scSwaps.nd rfl (.inl rfl) (pe_lst pa_nil))
      (pss_cons (ps_for (by passes_own) rfl (pi_range3 (by rfl) G.B.range (pa_cons (pe_op op_sub (pe_callB call_len (by rfl) G.B.len PySem.boot_len (pa_cons (pv 4) pa_nil)) pe_int) (pa_cons pe_int (pa_cons (pe_un un_neg pe_int) pa_nil)))) (pg_name (i := 6) scSwaps.nd rfl (Or.inl rfl))
        (pss_one (ps_for (by passes_own) rfl (pi_range1 (by rfl) G.B.range (pa_cons (pv 6) pa_nil)) (pg_name (i := 7) scSwaps.nd rfl (Or.inl rfl))
          (pss_one (ps_if (pt_cmpR op_gt (pe_ix (r := rIxL K) ix_list (pv 4) (pv 7) (fun _ _ => rfl)) (pe_ix (r := rIxL K) ix_list (pv 4) (pe_op op_add (pv 7) pe_int) (fun _ _ => rfl)) (nomark _))
            (pss_cons (ps_asg (pe_tup (pa_cons (pe_ix (r := rIxL K) ix_list (pv 4) (pe_op op_add (pv 7) pe_int) (fun _ _ => rfl)) (pa_cons (pe_ix (r := rIxL K) ix_list (pv 4) (pv 7) (fun _ _ => rfl)) pa_nil))) (pg_tup rfl (pgs_cons (pg_sub (pv 4) (pv 7) set_list) (pgs_cons (pg_sub (pv 4) (pe_op op_add (pv 7) pe_int) set_list) pgs_nil))))
              (pss_one (ps_expr (pe_bm PySem.F.plainAttrs_list PySem.F.slot_list_append PySem.F.type_list_append mt_append (pv 5) (pa_cons (pv 7) pa_nil))))) pss_nil)))))
      (pss_one (ps_ret (pe_callTy call_tuple_of (by rfl) G.B.tuple (by decide +kernel) (pa_cons (pv 5) pa_nil))))))))), ?_⟩
    refine ⟨.ref f, rfl, x, rfl, y, rfl, ?_⟩
    delta tNil
    refine two_ck hf hl h fun ns ms H1 ok h1 h2 r s1 => ?_
    obtain ⟨a, rfl, ha, pa⟩ := h1
    obtain ⟨b, rfl, hb, pb⟩ := h2
    have h8 := ok.1
    refine ⟨.ref f, rfl, .ref a, rfl, f, a, gs, ns, rfl, hf.same s1, h8, ha.same s1, pa, fun D H2 ts s2 nD eD pt => ?_⟩
    have s12 := s1.trans s2
    refine ⟨.ref f, rfl, .ref b, rfl, f, b, gs, ms, rfl, hf.same s12, h8, hb.same s12, pb, fun D2 H3 us s3 nD2 eD2 pu => ?_⟩
    have s13 := s12.trans s3
    refine ⟨.tuple ((dirs gs ns).map pdP), .tuple ((dirs gs ms).map pdP), .tup (sqT (s3 _ _ eD)) (dpPairs (pt.same s3)), .tup (sqT eD2) (dpPairs pu), shPairs _, shPairs _, _, rfl, ?_⟩
    rw [eqvTP]
    rcases r with ⟨hne, r⟩ | ⟨he, r⟩
    · rw [decide_eq_false hne]
      exact iteT (r H3 s13)
    rw [decide_eq_true he]
    refine iteF ?_
    have hnl : ns.length = gs.length := by rw [pa.length_eq, List.length_range]
    have hml : ms.length = gs.length := by rw [pb.length_eq, List.length_range]
    have hmn : ms.Nodup := pb.nodup_iff.mpr List.nodup_range
    refine ⟨.ref b, rfl, b, ms, rfl, hb.same s13, hmn, by omega, fun d H4 kvs s4 nd ed hst => ?_⟩
    have s14 := s13.trans s4
    refine ⟨a, nts ns, fun x => match x with | .int i => .int (ms.idxOf i.toNat : Nat) | _ => .non, rfl, ha.same s14, by rw [nts_len]; omega, fun i x H5 Qk hx s5 hk => ?_, fun S H5 nS s5 eS => ?_⟩
    · obtain ⟨n, hn, rfl⟩ := nts_get hx
      have hin : n ∈ ms := pb.mem_iff.mpr (pa.mem_iff.mp (List.mem_of_getElem? hn))
      have g1 := hst _ _ (idx_get hin)
      refine ⟨.ref d, rfl, .int (n : Nat), rfl, d, .int (ms.idxOf n : Nat), rfl, ?_, ?_⟩
      · rw [← g1]
        exact DGet.k (k := Sum.inl (n : Int)) (s5 _ _ ed)
      · exact hk H5 (Same.refl _)
    have eS' : H5 S = some (.lst (nts (ns.map fun n => ms.idxOf n))) := by
      rw [eS]
      unfold nts
      rw [List.map_map, List.map_map]
      rfl
    have s15 := s14.trans s5
    have nSH : H S = none := none_of_same s14 nS
    refine ⟨by show 0 ≤ sizeLine; exact Nat.zero_le _, fun T nT => ?_⟩
    have nTH : H T = none := none_of_same s15 nT
    have hST : S ≠ T := ne_of_none eS' nT
    have s16 : Same H (upd H5 T (.lst [])) := s15.trans (same_upd nT)
    -- the state of both lists
    let st0 : List Nat × List Nat := (ns.map fun n => ms.idxOf n, [])
    have l0 : st0.1.length = gs.length := by
      show (ns.map fun n => ms.idxOf n).length = gs.length
      rw [List.length_map, hnl]
    have hS6 : upd H5 T (.lst []) S = some (.lst (nts st0.1)) := by
      rw [upd_ne hST]
      exact eS'
    refine ⟨.ref S, rfl, .ref S, gs.length, rfl, .inl ⟨_, sqL hS6, by rw [nts_len, l0]⟩, (gs.length : Int), 1, rfl, rfl, 1, rfl, (gs.length : Int) - 1, 0, -1, ((gs.length : Int) - 1 - 0).toNat, rfl, RgC.neg (by omega) (by omega) (by decide) (by decide), ?_⟩
    refine for_rangeC (D := { nx := _, rt := Q }) (fun i σ H' => (∃ p q, σ = [some (.ref f), some (.ref a), some (.ref b), some (.ref d), some (.ref S), some (.ref T), p, q, none]) ∧ Same H H' ∧ H' S = some (.lst (nts (outB st0 gs.length i).1)) ∧ H' T = some (.lst (nts (outB st0 gs.length i).2))) ?_ ?_ ?_
    · exact ⟨⟨none, none, rfl⟩, s16, hS6, upd_same⟩
    · rintro i σ H6 hi ⟨⟨p, q, rfl⟩, s6, e1, e2⟩
      have hol := outB_len st0 gs.length h8 i
      refine ⟨_, rfl, (gs.length : Int) - 1 + i * (-1), rfl, by omega, by omega, ?_⟩
      have hn : ((gs.length : Int) - 1 + i * (-1)).toNat = gs.length - 1 - i := by omega
      rw [hn]
      refine for_range (D := { nx := _, rt := Q }) (fun j σ H' => (∃ q, σ = [some (.ref f), some (.ref a), some (.ref b), some (.ref d), some (.ref S), some (.ref T), some (.int ((gs.length : Int) - 1 + i * (-1))), q, none]) ∧ Same H H' ∧ H' S = some (.lst (nts (inB (outB st0 gs.length i) j).1)) ∧ H' T = some (.lst (nts (inB (outB st0 gs.length i) j).2))) ?_ ?_ ?_
      · exact ⟨⟨_, rfl⟩, s6, e1, e2⟩
      · rintro j σ H7 hj ⟨⟨q, rfl⟩, s7, e3, e4⟩
        have hil := inB_len (outB st0 gs.length i) j
        have hj1 : j + 1 < (inB (outB st0 gs.length i) j).1.length := by
          have : st0.1.length = gs.length := l0
          omega
        have ej : (0 : Int) + j = j := Int.zero_add _
        have ej1 : (j : Int) + 1 = ((j + 1 : Nat) : Int) := rfl
        rw [inB_succ]
        generalize hst : inB (outB st0 gs.length i) j = st at hil e3 e4 hj1 ⊢
        have hT2 : st.2.length ≤ 200 := by
          have h0 : st0.2.length = 0 := rfl
          omega
        have a0 := nts_at (l := st.1) (i := j) (by omega)
        have a1 := nts_at (l := st.1) (i := j + 1) hj1
        refine ⟨.ref S, rfl, _, rfl, S, _, _, _, rfl, rfl, sqL e3, by rw [ej]; exact a0, .ref S, rfl, _, rfl, _, _, rfl, rfl, S, _, _, _, rfl, rfl, sqL e3, by rw [ej]; exact a1, _, _, rfl, rfl, _, rfl, ?_⟩
        unfold stepB
        by_cases hgt : st.1.getD (j + 1) 0 < st.1.getD j 0
        case neg =>
          rw [decide_eq_false (by omega), if_neg hgt]
          exact iteF ⟨⟨_, rfl⟩, s7, e3, e4⟩
        rw [decide_eq_true (by omega), if_pos hgt]
        refine iteT ?_
        refine ⟨.ref S, rfl, _, rfl, _, _, rfl, rfl, S, _, _, _, rfl, rfl, sqL e3, by rw [ej]; exact a1, .ref S, rfl, _, rfl, S, _, _, _, rfl, rfl, sqL e3, by rw [ej]; exact a0, by show 2 ≤ sizeLine; decide, fun U nU => ?_⟩
        have hSU : S ≠ U := ne_of_none e3 nU
        have hTU : T ≠ U := ne_of_none e4 nU
        refine ⟨U, _, rfl, sqT upd_same, rfl, _, _, rfl, .ref S, rfl, _, rfl, S, _, _, j, rfl, rfl, by rw [upd_ne hSU]; exact e3, by rw [ej, nts_len]; exact ixN_nat (by omega), ?_⟩
        refine ⟨_, _, rfl, .ref S, rfl, _, rfl, _, _, rfl, rfl, S, _, _, j + 1, rfl, rfl, upd_same, by rw [ej, ej1, List.length_set, nts_len]; exact ixN_nat hj1, rfl, ?_⟩
        have nSU : ∀ b o, H b = some o → b ≠ S := fun b o e z => by
          rw [z, nSH] at e
          cases e
        have nTT : ∀ b o, H b = some o → b ≠ T := fun b o e z => by
          rw [z, nTH] at e
          cases e
        refine ⟨.ref T, rfl, .inl ⟨rfl, _, sqL (by rw [upd_ne hST.symm, upd_ne hST.symm, upd_ne hTU]; exact e4)⟩, _, rfl, T, _, _, rfl, rfl, by rw [upd_ne hST.symm, upd_ne hST.symm, upd_ne hTU]; exact e4, by rw [nts_len, sizeLine_eq]; omega, ?_⟩
        refine ⟨⟨_, rfl⟩, fun b o e => ?_, ?_, ?_⟩
        · rw [upd_ne (nTT b o e), upd_ne (nSU b o e), upd_ne (nSU b o e)]
          exact same_upd nU _ _ (s7 _ _ e)
        · rw [upd_ne hST, upd_same, nts_set, nts_set]
          rfl
        · rw [upd_same, ej]
          unfold nts
          rw [List.map_append]
          rfl
      · rintro σ H7 ⟨⟨q, rfl⟩, s7, e3, e4⟩
        refine ⟨⟨_, _, rfl⟩, s7, ?_, ?_⟩
        · rw [outB_succ]
          exact e3
        · rw [outB_succ]
          exact e4
    · rintro σ H6 ⟨⟨p, q, rfl⟩, s6, e1, e2⟩
      refine ⟨.ref T, rfl, T, _, rfl, .inl ⟨sqL e2, fun l nl => ?_⟩⟩
      refine r l _ (s6.trans (same_upd nl)) (none_of_same s6 nl) ?_
      rw [upd_same]
      have e : ((gs.length : Int) - 1 - 0).toNat = ns.length - 1 := by omega
      unfold told
      rw [e, hnl]
end
end K7

set_option maxRecDepth 100000
set_option maxHeartbeats 4000000
namespace K7
open PySem PySem.Spec PyProof.Rows L2 GX NdefX
/-! ### the law's own defs -/
theorem scNums : FnScope ["script", "numbers", "place", "cell", "turned", "turn", "seed"] ["script"] (defScope sLNums) := ⟨rfl, rfl, rfl, by decide +kernel, rfl, by decide +kernel, by decide +kernel⟩
theorem scDraw : FnScope ["numbers", "many"] ["numbers", "many"] (defScope sLDraw) := ⟨rfl, rfl, rfl, by decide +kernel, rfl, by decide +kernel, by decide +kernel⟩
theorem scLInt : FnScope ["value"] ["value"] (defScope sLInt) := ⟨rfl, rfl, rfl, by decide +kernel, rfl, by decide +kernel, by decide +kernel⟩
theorem scPool : FnScope ["numbers", "total", "letters", "pool", "k", "name", "word"] ["numbers", "total"] (defScope sLPool) := ⟨rfl, rfl, rfl, by decide +kernel, rfl, by decide +kernel, by decide +kernel⟩
theorem scLFrame : FnScope ["numbers", "pool", "many", "dense", "frame", "k", "reads", "name"] ["numbers", "pool", "many"] (defScope sLFrame) := ⟨rfl, rfl, rfl, by decide +kernel, rfl, by decide +kernel, by decide +kernel⟩
theorem scLTouch : FnScope ["frame", "low", "high"] ["frame", "low", "high"] (defScope sLTouch) := ⟨rfl, rfl, rfl, by decide +kernel, rfl, by decide +kernel, by decide +kernel⟩
theorem scLOrder : FnScope ["numbers", "many", "left", "order", "turn"] ["numbers", "many"] (defScope sLOrder) := ⟨rfl, rfl, rfl, by decide +kernel, rfl, by decide +kernel, by decide +kernel⟩
theorem scLed : FnScope ["numbers", "frame", "order", "led", "turn", "k"] ["numbers", "frame", "order"] (defScope sLLed) := ⟨rfl, rfl, rfl, by decide +kernel, rfl, by decide +kernel, by decide +kernel⟩
theorem scUnlike : FnScope ["order", "other", "pairs", "low", "high"] ["order", "other"] (defScope sLUnlike) := ⟨rfl, rfl, rfl, by decide +kernel, rfl, by decide +kernel, by decide +kernel⟩
theorem scLDirs : FnScope ["frame", "order", "told", "low", "high"] ["frame", "order"] (defScope sLDirs) := ⟨rfl, rfl, rfl, by decide +kernel, rfl, by decide +kernel, by decide +kernel⟩
theorem scRight : FnScope ["frame", "order", "other", "told", "unlike", "parted", "at", "k", "pair"] ["frame", "order", "other"] (defScope sLRight) := ⟨rfl, rfl, rfl, by decide +kernel, rfl, by decide +kernel, by decide +kernel⟩
theorem scWord : FnScope ["turn", "frame", "order", "other", "told", "wrong"] ["turn", "frame", "order", "other"] (defScope sLWord) := ⟨rfl, rfl, rfl, by decide +kernel, rfl, by decide +kernel, by decide +kernel⟩
theorem scRefused : FnScope ["pool", "frame", "order", "many", "bad", "turn", "twice", "k", "name"] ["pool", "frame", "order"] (defScope sLRefused) := ⟨rfl, rfl, rfl, by decide +kernel, rfl, by decide +kernel, by decide +kernel⟩
theorem scLaw : FnScope ["script", "numbers", "pool", "many", "frame", "order", "led", "drawn", "around", "other", "first", "second"] ["script"] (defScope sLaw) := ⟨rfl, rfl, rfl, by decide +kernel, rfl, by decide +kernel, by decide +kernel⟩
/-! ### _law_numbers -/
def spLNums (K : PySem.W.Frag) : Sp := fun vs H Q _ => ∃ (a : Addr) (ns : List Int), vs = [.ref a] ∧ SqL K H a (ns.map V.int) ∧ ns.length ≤ 63 ∧
  ∀ D H' l, Same H H' → H D = none → H' D = some (.lst (nts l)) → l.length ≤ 4000 → Q (.ref D) H'
theorem nts_snoc (l : List Nat) {x : Int} (h : 0 ≤ x) : nts l ++ [.int x] = nts (l ++ [x.toNat]) := by
  unfold nts
  rw [List.map_append, List.map_singleton, Int.toNat_of_nonneg h]
theorem fmod_nn {a b : Int} (ha : 0 ≤ a) (hb : 0 < b) : 0 ≤ a.fmod b ∧ a.fmod b < b := ⟨Int.fmod_nonneg_of_pos a hb, Int.fmod_lt_of_pos a hb⟩
theorem fdiv_nn {a b : Int} (ha : 0 ≤ a) (hb : 0 < b) : 0 ≤ a.fdiv b ∧ a.fdiv b ≤ a := by
  rw [Int.fdiv_eq_ediv_of_nonneg a (by omega)]
  exact ⟨Int.ediv_nonneg ha (by omega), Int.ediv_le_self b ha⟩
section
variable {P : Program} {w : World} {K : PySem.W.Frag} {mg : Str → Option Value} {base : Heap}
theorem ok_lnums {f : Addr} {fd : FuncData} {k : Nat} (F : Fun K "_law_numbers" "_law_numbers" sLNums f fd) (B : Bl mg) : FnOk P w K mg base CX0 (k + 1) f fd ["script"] (spLNums K) := by
  refine F.ok scNums (fun vs H Q E h => ?_) (fun cdv A outer s H vs Q E hr h => ?_)
  · obtain ⟨a, ns, rfl, _⟩ := h
    rfl
  · obtain ⟨a, ns, rfl, hq, hl, q⟩ := h
    refine ⟨_, pss_cons (ps_set (i := 1) scNums.nd rfl (.inl rfl) (pe_lst pa_nil))
      (pss_cons (ps_for PassesOwn.never rfl (pi_range1 (by rfl) B.range (pa_cons (pe_callB (call_min2 rfl) (by rfl) B.min (by decide +kernel) (pa_cons (pe_callB call_len (by rfl) B.len PySem.boot_len (pa_cons (pv 0) pa_nil)) (pa_cons pe_int pa_nil))) pa_nil)) (pg_name (i := 2) scNums.nd rfl (.inl rfl))
        (pss_cons (ps_set (i := 3) scNums.nd rfl (.inl rfl) (pe_callTy call_int1 (by rfl) B.int (by decide +kernel) (pa_cons (pe_ix (r := rIxL K) ix_list (pv 0) (pv 2) (fun _ _ => rfl)) pa_nil)))
        (pss_cons (ps_set (i := 4) scNums.nd rfl (.inl rfl) pe_int)
        (pss_cons (ps_if (pt_cmpR op_lt (pv 3) pe_int (nomark _)) (pss_cons (ps_set (i := 3) scNums.nd rfl (.inl rfl) (pe_op op_sub pe_int (pv 3))) (pss_one (ps_set (i := 4) scNums.nd rfl (.inl rfl) pe_int))) pss_nil)
        (pss_one (ps_if (pt_cmpR op_ge (pv 3) (pe_op op_pow pe_int pe_int) (nomark _))
          (pss_one (ps_for PassesOwn.never rfl (pi_range1 (by rfl) B.range (pa_cons pe_int pa_nil)) (pg_name (i := 5) scNums.nd rfl (.inl rfl))
            (pss_one (ps_if (pt_cmpR op_gt (pv 3) pe_int (nomark _))
              (pss_cons (ps_expr (pe_bm PySem.F.plainAttrs_list PySem.F.slot_list_append PySem.F.type_list_append mt_append (pv 1) (pa_cons (pe_op op_modN (pe_callTy call_int1 (by rfl) B.int (by decide +kernel) (pa_cons (pv 3) pa_nil)) pe_int) pa_nil)))
              (pss_one (ps_set (i := 3) scNums.nd rfl (.inl rfl) (pe_op op_fdivN (pv 3) pe_int)))) pss_nil))))
          (pss_cons (ps_set (i := 6) scNums.nd rfl (.inl rfl) (pe_op op_modN (pe_callTy call_int1 (by rfl) B.int (by decide +kernel) (pa_cons (pe_op op_add (pe_op op_add (pe_op op_add (pe_mul (pv 3) pe_int) (pe_mul (pv 2) pe_int)) (pe_mul (pv 4) pe_int)) pe_int) pa_nil)) pe_int))
          (pss_one (ps_for PassesOwn.never rfl (pi_range1 (by rfl) B.range (pa_cons pe_int pa_nil)) (pg_name (i := 5) scNums.nd rfl (.inl rfl))
            (pss_cons (ps_set (i := 6) scNums.nd rfl (.inl rfl) (pe_op op_modN (pe_callTy call_int1 (by rfl) B.int (by decide +kernel) (pa_cons (pe_op op_add (pe_op op_add (pe_mul (pv 6) pe_int) (pe_mul (pe_callTy call_int1 (by rfl) B.int (by decide +kernel) (pa_cons (pe_op op_fdivN (pv 6) pe_int) pa_nil)) (pv 5))) pe_int) pa_nil)) pe_int))
            (pss_one (ps_expr (pe_bm PySem.F.plainAttrs_list PySem.F.slot_list_append PySem.F.type_list_append mt_append (pv 1) (pa_cons (pe_op op_modN (pe_callTy call_int1 (by rfl) B.int (by decide +kernel) (pa_cons (pe_op op_fdivN (pv 6) pe_int) pa_nil)) pe_int) pa_nil))))))))))))))
      (pss_cons (ps_expr (pe_bm0 PySem.F.plainAttrs_list PySem.F.slot_list_reverse PySem.F.type_list_reverse mt_reverse (pv 1)))
      (pss_one (ps_ret (pv 1))))), ?_⟩
    refine ⟨Nat.zero_le _, fun D nD => ?_⟩
    refine ⟨.ref a, rfl, .ref a, ns.length, rfl, .inl ⟨_, Same.seq (same_upd nD) hq, by rw [List.length_map]⟩, (ns.length : Int), 63, rfl, ?_⟩
    rw [if_neg (by omega)]
    refine ⟨(ns.length : Int), rfl, by omega, by omega, ?_⟩
    refine for_range (D := { nx := _, rt := Q }) (fun i σ H' => (∃ c2 c3 c4 c5 c6, σ = [some (.ref a), some (.ref D), c2, c3, c4, c5, c6]) ∧ Same H H' ∧ ∃ l, H' D = some (.lst (nts l)) ∧ l.length ≤ 45 * i) ?_ ?_ ?_
    · exact ⟨⟨_, _, _, _, _, rfl⟩, same_upd nD, [], upd_same, Nat.le_refl _⟩
    · rintro i σ H2 hi ⟨⟨c2, c3, c4, c5, c6, rfl⟩, s2, l, e2, hl2⟩
      have hi : i < ns.length := by
        have : i < ((ns.length : Int)).toNat := hi
        omega
      have ei : (0 : Int) + i = i := Int.zero_add _
      refine ⟨.ref a, rfl, _, rfl, a, _, _, .int ns[i], rfl, rfl, Same.seq s2 hq, by rw [ei]; refine atI_nat ?_; rw [List.getElem?_map, List.getElem?_eq_getElem hi]; rfl, .inl ⟨ns[i], rfl, ?_⟩⟩
      refine ⟨_, rfl, ns[i], 0, rfl, rfl, _, rfl, ?_⟩
      generalize ns[i] = n
      by_cases hneg : n < 0
      · rw [decide_eq_true hneg]
        refine iteT ⟨.int n, rfl, 0, n, rfl, rfl, ?_⟩
        have hc : (0 : Int) ≤ 0 - n := by omega
        refine ⟨.int (0 - n), rfl, 10, 18, rfl, rfl, ⟨by decide, by decide, by decide⟩, (0 - n), _, rfl, rfl, _, rfl, ?_⟩
        by_cases hbig : (10 : Int) ^ (18 : Int).toNat ≤ (0 - n)
        · rw [decide_eq_true hbig]
          refine iteT ⟨45, rfl, by decide, by decide, ?_⟩
          refine for_range (D := { nx := _, rt := Q }) (fun j σ H' => (∃ c' c5, σ = [some (.ref a), some (.ref D), some (.int (0 + (i : Int))), some (.int c'), some (.int 1), c5, c6] ∧ 0 ≤ c') ∧ Same H H' ∧ ∃ l, H' D = some (.lst (nts l)) ∧ l.length ≤ 45 * i + j) ?_ ?_ ?_
          · exact ⟨⟨_, _, rfl, hc⟩, s2, l, e2, hl2⟩
          · rintro j σ H3 hj ⟨⟨c', c5, rfl, hc'⟩, s3, l, e3, hl3⟩
            have hj : j < 45 := hj
            refine ⟨.int c', rfl, c', 0, rfl, rfl, _, rfl, ?_⟩
            by_cases hpos : (0 : Int) < c'
            · rw [decide_eq_true hpos]
              refine iteT ⟨.ref D, rfl, .inl ⟨rfl, _, sqL e3⟩, .int c', rfl, .inl ⟨c', rfl, c', 60, rfl, rfl, (by show (60 : Int) ≠ 0; decide), D, _, _, rfl, rfl, e3, by rw [nts_len, sizeLine_eq]; omega, .int c', rfl, c', 60, rfl, rfl, ⟨by decide, by decide⟩, ?_⟩⟩
              have hm := fmod_nn (a := c') (b := 60) hc' (by decide)
              refine ⟨⟨_, _, rfl, (fdiv_nn hc' (by decide)).1⟩, fun b o e => ?_, l ++ [(c'.fmod 60).toNat], ?_, ?_⟩
              · rw [upd_ne (ne_of_none e nD)]
                exact s3 _ _ e
              · rw [upd_same, nts_snoc _ hm.1]
              · rw [List.length_append, List.length_singleton]
                omega
            · rw [decide_eq_false hpos]
              exact iteF ⟨⟨_, _, rfl, hc'⟩, s3, l, e3, by omega⟩
          · rintro σ H3 ⟨⟨c', c5, rfl, hc'⟩, s3, l, e3, hl3⟩
            have hl3 : l.length ≤ 45 * i + 45 := hl3
            exact ⟨⟨_, _, _, _, _, rfl⟩, s3, l, e3, by omega⟩
        · rw [decide_eq_false hbig]
          have hbig : ¬ (1000000000000000000 : Int) ≤ (0 - n) := hbig
          refine iteF ⟨.int (0 - n), rfl, (0 - n), 16807, rfl, rfl, ⟨by omega, by omega⟩, _, rfl, _, 7919, rfl, rfl, ⟨by omega, by omega⟩, _, _, rfl, rfl, .int 1, rfl, 1, 104729, rfl, rfl, ⟨by omega, by omega⟩, _, _, rfl, rfl, _, _, rfl, rfl, .inl ⟨_, rfl, _, 2147483629, rfl, rfl, (by show (2147483629 : Int) ≠ 0; decide), 7, rfl, by decide, by decide, ?_⟩⟩
          have hs := fmod_nn (a := (0 - n) * 16807 + (0 + (i : Int)) * 7919 + 1 * 104729 + 11) (b := 2147483629) (by omega) (by decide)
          refine for_range (D := { nx := _, rt := Q }) (fun j σ H' => (∃ c5 sd, σ = [some (.ref a), some (.ref D), some (.int (0 + (i : Int))), some (.int (0 - n)), some (.int 1), c5, some (.int sd)] ∧ 0 ≤ sd ∧ sd < 2147483629) ∧ Same H H' ∧ ∃ l, H' D = some (.lst (nts l)) ∧ l.length ≤ 45 * i + j) ?_ ?_ ?_
          · exact ⟨⟨_, _, rfl, hs⟩, s2, l, e2, hl2⟩
          · rintro j σ H3 hj ⟨⟨c5, sd, rfl, h0, h1⟩, s3, l, e3, hl3⟩
            have hj : j < 7 := hj
            have hd := fdiv_nn (a := sd) (b := 1000) h0 (by decide)
            refine ⟨.int sd, rfl, sd, 39373, rfl, rfl, ⟨by omega, by omega⟩, .int sd, rfl, sd, 1000, rfl, rfl, ⟨by decide, by decide⟩, .inl ⟨_, rfl, _, rfl, _, _, rfl, rfl, ⟨by omega, by omega⟩, _, _, rfl, rfl, _, _, rfl, rfl, .inl ⟨_, rfl, _, 2147483629, rfl, rfl, (by show (2147483629 : Int) ≠ 0; decide), ?_⟩⟩⟩
            have hp : 0 ≤ sd.fdiv 1000 * (0 + (j : Int)) := Int.mul_nonneg hd.1 (by omega)
            have hs2 := fmod_nn (a := sd * 39373 + sd.fdiv 1000 * (0 + (j : Int)) + 7919) (b := 2147483629) (by omega) (by decide)
            have hd2 := fdiv_nn (a := (sd * 39373 + sd.fdiv 1000 * (0 + (j : Int)) + 7919).fmod 2147483629) (b := 7) hs2.1 (by decide)
            have hm2 := fmod_nn (a := ((sd * 39373 + sd.fdiv 1000 * (0 + (j : Int)) + 7919).fmod 2147483629).fdiv 7) (b := 55440) hd2.1 (by decide)
            refine ⟨.ref D, rfl, .inl ⟨rfl, _, sqL e3⟩, _, rfl, _, 7, rfl, rfl, ⟨by decide, by decide⟩, .inl ⟨_, rfl, _, 55440, rfl, rfl, (by show (55440 : Int) ≠ 0; decide), D, _, _, rfl, rfl, e3, by rw [nts_len, sizeLine_eq]; omega, ?_⟩⟩
            refine ⟨⟨_, _, rfl, hs2⟩, fun b o e => ?_, l ++ [((((sd * 39373 + sd.fdiv 1000 * (0 + (j : Int)) + 7919).fmod 2147483629).fdiv 7).fmod 55440).toNat], ?_, ?_⟩
            · rw [upd_ne (ne_of_none e nD)]
              exact s3 _ _ e
            · rw [upd_same]
              exact congrArg (fun l => some (HO.lst l)) (nts_snoc _ hm2.1)
            · rw [List.length_append, List.length_singleton]
              omega
          · rintro σ H3 ⟨⟨c5, sd, rfl, h0, h1⟩, s3, l, e3, hl3⟩
            have hl3 : l.length ≤ 45 * i + 7 := hl3
            exact ⟨⟨_, _, _, _, _, rfl⟩, s3, l, e3, by omega⟩
      · rw [decide_eq_false hneg]
        refine iteF ?_
        have hc : (0 : Int) ≤ n := by omega
        refine ⟨.int n, rfl, 10, 18, rfl, rfl, ⟨by decide, by decide, by decide⟩, n, _, rfl, rfl, _, rfl, ?_⟩
        by_cases hbig : (10 : Int) ^ (18 : Int).toNat ≤ n
        · rw [decide_eq_true hbig]
          refine iteT ⟨45, rfl, by decide, by decide, ?_⟩
          refine for_range (D := { nx := _, rt := Q }) (fun j σ H' => (∃ c' c5, σ = [some (.ref a), some (.ref D), some (.int (0 + (i : Int))), some (.int c'), some (.int 0), c5, c6] ∧ 0 ≤ c') ∧ Same H H' ∧ ∃ l, H' D = some (.lst (nts l)) ∧ l.length ≤ 45 * i + j) ?_ ?_ ?_
          · exact ⟨⟨_, _, rfl, hc⟩, s2, l, e2, hl2⟩
          · rintro j σ H3 hj ⟨⟨c', c5, rfl, hc'⟩, s3, l, e3, hl3⟩
            have hj : j < 45 := hj
            refine ⟨.int c', rfl, c', 0, rfl, rfl, _, rfl, ?_⟩
            by_cases hpos : (0 : Int) < c'
            · rw [decide_eq_true hpos]
              refine iteT ⟨.ref D, rfl, .inl ⟨rfl, _, sqL e3⟩, .int c', rfl, .inl ⟨c', rfl, c', 60, rfl, rfl, (by show (60 : Int) ≠ 0; decide), D, _, _, rfl, rfl, e3, by rw [nts_len, sizeLine_eq]; omega, .int c', rfl, c', 60, rfl, rfl, ⟨by decide, by decide⟩, ?_⟩⟩
              have hm := fmod_nn (a := c') (b := 60) hc' (by decide)
              refine ⟨⟨_, _, rfl, (fdiv_nn hc' (by decide)).1⟩, fun b o e => ?_, l ++ [(c'.fmod 60).toNat], ?_, ?_⟩
              · rw [upd_ne (ne_of_none e nD)]
                exact s3 _ _ e
              · rw [upd_same, nts_snoc _ hm.1]
              · rw [List.length_append, List.length_singleton]
                omega
            · rw [decide_eq_false hpos]
              exact iteF ⟨⟨_, _, rfl, hc'⟩, s3, l, e3, by omega⟩
          · rintro σ H3 ⟨⟨c', c5, rfl, hc'⟩, s3, l, e3, hl3⟩
            have hl3 : l.length ≤ 45 * i + 45 := hl3
            exact ⟨⟨_, _, _, _, _, rfl⟩, s3, l, e3, by omega⟩
        · rw [decide_eq_false hbig]
          have hbig : ¬ (1000000000000000000 : Int) ≤ n := hbig
          refine iteF ⟨.int n, rfl, n, 16807, rfl, rfl, ⟨by omega, by omega⟩, _, rfl, _, 7919, rfl, rfl, ⟨by omega, by omega⟩, _, _, rfl, rfl, .int 0, rfl, 0, 104729, rfl, rfl, ⟨by omega, by omega⟩, _, _, rfl, rfl, _, _, rfl, rfl, .inl ⟨_, rfl, _, 2147483629, rfl, rfl, (by show (2147483629 : Int) ≠ 0; decide), 7, rfl, by decide, by decide, ?_⟩⟩
          have hs := fmod_nn (a := n * 16807 + (0 + (i : Int)) * 7919 + 0 * 104729 + 11) (b := 2147483629) (by omega) (by decide)
          refine for_range (D := { nx := _, rt := Q }) (fun j σ H' => (∃ c5 sd, σ = [some (.ref a), some (.ref D), some (.int (0 + (i : Int))), some (.int n), some (.int 0), c5, some (.int sd)] ∧ 0 ≤ sd ∧ sd < 2147483629) ∧ Same H H' ∧ ∃ l, H' D = some (.lst (nts l)) ∧ l.length ≤ 45 * i + j) ?_ ?_ ?_
          · exact ⟨⟨_, _, rfl, hs⟩, s2, l, e2, hl2⟩
          · rintro j σ H3 hj ⟨⟨c5, sd, rfl, h0, h1⟩, s3, l, e3, hl3⟩
            have hj : j < 7 := hj
            have hd := fdiv_nn (a := sd) (b := 1000) h0 (by decide)
            refine ⟨.int sd, rfl, sd, 39373, rfl, rfl, ⟨by omega, by omega⟩, .int sd, rfl, sd, 1000, rfl, rfl, ⟨by decide, by decide⟩, .inl ⟨_, rfl, _, rfl, _, _, rfl, rfl, ⟨by omega, by omega⟩, _, _, rfl, rfl, _, _, rfl, rfl, .inl ⟨_, rfl, _, 2147483629, rfl, rfl, (by show (2147483629 : Int) ≠ 0; decide), ?_⟩⟩⟩
            have hp : 0 ≤ sd.fdiv 1000 * (0 + (j : Int)) := Int.mul_nonneg hd.1 (by omega)
            have hs2 := fmod_nn (a := sd * 39373 + sd.fdiv 1000 * (0 + (j : Int)) + 7919) (b := 2147483629) (by omega) (by decide)
            have hd2 := fdiv_nn (a := (sd * 39373 + sd.fdiv 1000 * (0 + (j : Int)) + 7919).fmod 2147483629) (b := 7) hs2.1 (by decide)
            have hm2 := fmod_nn (a := ((sd * 39373 + sd.fdiv 1000 * (0 + (j : Int)) + 7919).fmod 2147483629).fdiv 7) (b := 55440) hd2.1 (by decide)
            refine ⟨.ref D, rfl, .inl ⟨rfl, _, sqL e3⟩, _, rfl, _, 7, rfl, rfl, ⟨by decide, by decide⟩, .inl ⟨_, rfl, _, 55440, rfl, rfl, (by show (55440 : Int) ≠ 0; decide), D, _, _, rfl, rfl, e3, by rw [nts_len, sizeLine_eq]; omega, ?_⟩⟩
            refine ⟨⟨_, _, rfl, hs2⟩, fun b o e => ?_, l ++ [((((sd * 39373 + sd.fdiv 1000 * (0 + (j : Int)) + 7919).fmod 2147483629).fdiv 7).fmod 55440).toNat], ?_, ?_⟩
            · rw [upd_ne (ne_of_none e nD)]
              exact s3 _ _ e
            · rw [upd_same]
              exact congrArg (fun l => some (HO.lst l)) (nts_snoc _ hm2.1)
            · rw [List.length_append, List.length_singleton]
              omega
          · rintro σ H3 ⟨⟨c5, sd, rfl, h0, h1⟩, s3, l, e3, hl3⟩
            have hl3 : l.length ≤ 45 * i + 7 := hl3
            exact ⟨⟨_, _, _, _, _, rfl⟩, s3, l, e3, by omega⟩
    · rintro σ H2 ⟨⟨c2, c3, c4, c5, c6, rfl⟩, s2, l, e2, hl2⟩
      have hl2 : l.length ≤ 45 * ((ns.length : Int)).toNat := hl2
      refine ⟨.ref D, rfl, .inl ⟨rfl, _, sqL e2⟩, D, _, rfl, rfl, e2, .ref D, rfl, q D _ l.reverse (fun b o e => ?_) nD ?_ ?_⟩
      · rw [upd_ne (ne_of_none e nD)]
        exact s2 _ _ e
      · rw [upd_same]
        unfold nts
        rw [List.map_reverse]
      · rw [List.length_reverse]
        omega
end
end K7

set_option maxRecDepth 100000
set_option maxHeartbeats 4000000
namespace K7
open PySem PySem.Spec PyProof.Rows L2 GX NdefX
/-! ### _law_draw -/
def NumsAt (H : Hp) (a : Addr) : Prop := ∃ l : List Nat, H a = some (.lst (nts l)) ∧ l.length ≤ 4000
def SameB (a : Addr) (H H' : Hp) : Prop := ∀ b o, b ≠ a → H b = some o → H' b = some o
theorem SameB.trans {a : Addr} {H1 H2 H3 : Hp} (h : SameB a H1 H2) (k : SameB a H2 H3) : SameB a H1 H3 := fun b o n e => k b o n (h b o n e)
theorem SameB.refl {a : Addr} {H : Hp} : SameB a H H := fun _ _ _ e => e
theorem sameB_of {a : Addr} {H1 H2 : Hp} (h : Same H1 H2) : SameB a H1 H2 := fun b o _ e => h b o e
theorem NumsAt.same {H H' : Hp} {a : Addr} (h : NumsAt H a) (s : Same H H') : NumsAt H' a := by
  obtain ⟨l, e, n⟩ := h
  exact ⟨l, s _ _ e, n⟩
def spDraw : Sp := fun vs H Q _ => ∃ (a : Addr) (m : Nat), vs = [.ref a, .int m] ∧ 1 ≤ m ∧ NumsAt H a ∧ ∀ (H' : Hp) (r : Nat), r < m → SameB a H H' → NumsAt H' a → Q (.int (r : Nat)) H'
def spInt : Sp := fun vs H Q _ => ∃ i : Int, vs = [.int i] ∧ Q (.bl true) H
/-- names of the law's pool -/
def poolLetters : Str := "xabkqmtzgw"
def PoolName (k : Nat) (z : Str) : Prop := ∃ l1 l2 : Nat, l1 ∈ poolLetters.cps.toList ∧ l2 ∈ poolLetters.cps.toList ∧ (z.cps.toList = [l1, 48 + k] ∨ z.cps.toList = [l1, 46, l2, 48 + k] ∨ z.cps.toList = [l1, l2, 48 + k])
def PoolOk (n : Nat) (p : List Str) : Prop := p.length = n ∧ ∀ (k : Nat) (z : Str), p[k]? = some z → PoolName k z
def spPool : Sp := fun vs H Q _ => ∃ a : Addr, vs = [.ref a, .int 9] ∧ NumsAt H a ∧ ∀ D H' p, PoolOk 9 p → SameB a H H' → NumsAt H' a → H D = none → H' D = some (.lst (txs p)) → Q (.ref D) H'
theorem str_digit : ∀ k : Nat, k < 9 → (Str.ofString (toString (k : Int))).cps.toList = [48 + k] ∧ ((k : Int)).natAbs.log2 < 1920 ∧ (Str.ofString (toString (k : Int))).length = 1 := by decide +kernel
theorem appL (a b : Str) : (a ++ b).cps.toList = a.cps.toList ++ b.cps.toList := Array.toList_append
section
variable {P : Program} {w : World} {K : PySem.W.Frag} {mg : Str → Option Value} {base : Heap}
theorem ok_draw {f : Addr} {fd : FuncData} {k : Nat} (F : Fun K "_law_draw" "_law_draw" sLDraw f fd) (B : Bl mg) : FnOk P w K mg base CX0 (k + 1) f fd ["numbers", "many"] spDraw := by
  refine F.ok scDraw (fun vs H Q E h => ?_) (fun cdv A outer s H vs Q E hr h => ?_)
  · obtain ⟨a, m, rfl, _⟩ := h
    rfl
  · obtain ⟨a, m, rfl, hm, ⟨l, ea, hl⟩, q⟩ := h
    refine ⟨_, pss_cons (ps_if (pt_cmpR op_eq (pe_callB call_len (by rfl) B.len PySem.boot_len (pa_cons (pv 0) pa_nil)) pe_int (nomark _)) (pss_one (ps_ret pe_int)) pss_nil)
      (pss_one (ps_ret (pe_op op_modN (pe_callTy call_int1 (by rfl) B.int (by decide +kernel) (pa_cons (pe_bm0 PySem.F.plainAttrs_list PySem.F.slot_list_pop PySem.F.type_list_pop mt_pop (pv 0)) pa_nil)) (pv 1)))), ?_⟩
    refine ⟨.ref a, rfl, .ref a, l.length, rfl, .inl ⟨_, sqL ea, (nts_len l).symm⟩, rfl, _, rfl, ?_⟩
    by_cases h0 : l.length = 0
    · rw [decide_eq_true (by rw [h0]; rfl)]
      exact iteT (q H 0 hm SameB.refl ⟨l, ea, hl⟩)
    rw [decide_eq_false (fun e => h0 (by have := V.int.inj e; omega))]
    have hi : l.length - 1 < l.length := by omega
    refine iteF ⟨.ref a, rfl, .inl ⟨rfl, _, sqL ea⟩, a, _, .int (l[l.length - 1]), rfl, rfl, ea, ?_, .inl ⟨_, rfl, .int m, rfl, _, m, rfl, rfl, (by show (m : Int) ≠ 0; omega), ?_⟩⟩
    · rw [nts_len]
      unfold nts
      rw [List.getElem?_map, List.getElem?_eq_getElem hi]
      rfl
    · have hf := fmod_nn (a := ((l[l.length - 1] : Nat) : Int)) (b := m) (by omega) (by omega)
      have z := q (upd H a (.lst (nts l).dropLast)) (((l[l.length - 1] : Nat) : Int).fmod m).toNat (by omega) (fun b o n e => by rw [upd_ne n]; exact e) ⟨l.dropLast, by rw [upd_same]; unfold nts; rw [List.map_dropLast], by rw [List.length_dropLast]; omega⟩
      rw [Int.toNat_of_nonneg hf.1] at z
      exact z
theorem ok_lint {f : Addr} {fd : FuncData} {k : Nat} (F : Fun K "_law_int" "_law_int" sLInt f fd) (B : Bl mg) : FnOk P w K mg base CX0 (k + 1) f fd ["value"] spInt := by
  refine F.ok scLInt (fun vs H Q E h => ?_) (fun cdv A outer s H vs Q E hr h => ?_)
  · obtain ⟨i, rfl, _⟩ := h
    rfl
  · obtain ⟨i, rfl, q⟩ := h
    refine ⟨_, pss_one (ps_ret (pe_and (pe_callB call_isi (by rfl) B.isi (by decide +kernel) (pa_cons (pv 0) (pa_cons (pe_bltn (v := .ty "int") (u := .type "int") (by rfl) B.int (by decide +kernel) rfl) pa_nil)))
      (pe_one (pe_not (pe_callB call_isi (by rfl) B.isi (by decide +kernel) (pa_cons (pv 0) (pa_cons (pe_bltn (v := .ty "bool") (u := .type "bool") (by rfl) B.bool (by decide +kernel) rfl) pa_nil))))))), ?_⟩
    refine ⟨_, rfl, _, _, .type "int", _, true, rfl, .ty "int", .base (.int i), kit_ty (by decide +kernel), true, rfl, iteT ?_⟩
    exact ⟨_, rfl, _, _, .type "int", _, false, rfl, .ty "bool", .base (.int i), kit_ty (by decide +kernel), _, rfl, q⟩
theorem ok_pool {f fD : Addr} {fd fdD : FuncData} (F : Fun K "_law_pool" "_law_pool" sLPool f fd) (B : Bl mg) (FD : Fun K "_law_draw" "_law_draw" sLDraw fD fdD) (bD : Binds K fdD ["numbers", "many"] []) (gD : mg "_law_draw" = some (.ref fD)) :
    FnOk P w K mg base CX0 2 f fd ["numbers", "total"] spPool := by
  have GD : FnOk P w K mg base CX0 1 fD fdD ["numbers", "many"] spDraw := ok_draw FD B
  refine F.ok scPool (fun vs H Q E h => ?_) (fun cdv A outer s H vs Q E hr h => ?_)
  · obtain ⟨a, rfl, _⟩ := h
    rfl
  · obtain ⟨a, rfl, hn, q⟩ := h
    refine ⟨_, pss_cons (ps_set (i := 2) scPool.nd rfl (.inl rfl) pe_str)
      (pss_cons (ps_set (i := 3) scPool.nd rfl (.inl rfl) (pe_lst pa_nil))
      (pss_cons (ps_for PassesOwn.never rfl (pi_range1 (by rfl) B.range (pa_cons (pv 1) pa_nil)) (pg_name (i := 4) scPool.nd rfl (.inl rfl))
        (pss_cons (ps_set (i := 5) scPool.nd rfl (.inl rfl) (pe_ix (r := rIxS) ix_str (pv 2) (pe_call GD hr (by rfl) gD FD.kp bD .nil pass0 (pa_cons (pv 0) (pa_cons pe_int pa_nil))) (fun _ _ => rfl)))
        (pss_cons (ps_set (i := 6) scPool.nd rfl (.inl rfl) (pe_call GD hr (by rfl) gD FD.kp bD .nil pass0 (pa_cons (pv 0) (pa_cons pe_int pa_nil))))
        (pss_cons (ps_if (pt_cmpR op_eq (pv 6) pe_int (nomark _)) (pss_one (ps_set (i := 5) scPool.nd rfl (.inl rfl) (pe_op op_add_str (pe_op op_add_str (pv 5) pe_str) (pe_ix (r := rIxS) ix_str (pv 2) (pe_call GD hr (by rfl) gD FD.kp bD .nil pass0 (pa_cons (pv 0) (pa_cons pe_int pa_nil))) (fun _ _ => rfl))))) pss_nil)
        (pss_cons (ps_if (pt_cmpR op_eq (pv 6) pe_int (nomark _)) (pss_one (ps_set (i := 5) scPool.nd rfl (.inl rfl) (pe_op op_add_str (pv 5) (pe_ix (r := rIxS) ix_str (pv 2) (pe_call GD hr (by rfl) gD FD.kp bD .nil pass0 (pa_cons (pv 0) (pa_cons pe_int pa_nil))) (fun _ _ => rfl))))) pss_nil)
        (pss_one (ps_expr (pe_bm PySem.F.plainAttrs_list PySem.F.slot_list_append PySem.F.type_list_append mt_append (pv 3) (pa_cons (pe_op op_add_str (pv 5) (pe_callTy call_str_int (by rfl) B.str (by decide +kernel) (pa_cons (pv 4) pa_nil))) pa_nil)))))))))
      (pss_one (ps_ret (pv 3))))), ?_⟩
    refine ⟨Nat.zero_le _, fun D nD => ?_⟩
    have hDa : D ≠ a := fun e => by
      obtain ⟨l, e2, _⟩ := hn
      rw [e, e2] at nD
      cases nD
    refine ⟨.int 9, rfl, 9, rfl, by decide, by decide, ?_⟩
    refine for_range (D := { nx := _, rt := Q }) (fun i σ H' => (∃ c4 c5 c6, σ = [some (.ref a), some (.int 9), some (.str poolLetters), some (.ref D), c4, c5, c6]) ∧ SameB a H H' ∧ NumsAt H' a ∧ ∃ p, H' D = some (.lst (txs p)) ∧ PoolOk i p) ?_ ?_ ?_
    · exact ⟨⟨_, _, _, rfl⟩, sameB_of (same_upd nD), hn.same (same_upd nD), [], upd_same, rfl, fun k z e => by simp at e⟩
    · rintro k σ H2 hk ⟨⟨c4, c5, c6, rfl⟩, s2, n2, p, e2, hp⟩
      have hk : k < 9 := hk
      rw [show (0 : Int) + k = k from Int.zero_add _]
      have hlt : ∀ r : Nat, r < 10 → ∃ c, poolLetters.cps.toList[r]? = some c ∧ c ∈ poolLetters.cps.toList := fun r hr => by
        have hl : poolLetters.cps.toList.length = 10 := by decide
        exact ⟨_, List.getElem?_eq_getElem (by omega), List.getElem_mem _⟩
      have hsz : poolLetters.length ≤ sizeLine := by decide
      have ek : (0 : Int) + k = k := Int.zero_add _
      obtain ⟨hd1, hd2, hd3⟩ := str_digit k hk
      -- name = letters[..]
      refine ⟨_, rfl, .ref a, rfl, a, 10, rfl, by decide, n2, fun H3 r1 hr1 s3 n3 => ?_⟩
      obtain ⟨x1, g1, m1⟩ := hlt r1 hr1
      refine ⟨poolLetters, r1, x1, rfl, rfl, hsz, atI_nat g1, ?_⟩
      -- word
      refine ⟨.ref a, rfl, a, 6, rfl, by decide, n3, fun H4 r2 hr2 s4 n4 => ?_⟩
      have s24 := s2.trans (s3.trans s4)
      have e4 := s4 _ _ hDa (s3 _ _ hDa e2)
      refine ⟨_, rfl, rfl, _, rfl, ?_⟩
      by_cases h5 : r2 = 5
      · subst h5
        refine iteT ⟨_, rfl, _, _, rfl, rfl, by show 1 + 1 ≤ sizeLine; decide, _, rfl, .ref a, rfl, a, 10, rfl, by decide, n4, fun H5 r3 hr3 s5 n5 => ?_⟩
        obtain ⟨x2, g2, m2⟩ := hlt r3 hr3
        refine ⟨poolLetters, r3, x2, rfl, rfl, hsz, atI_nat g2, _, _, rfl, rfl, by rw [lenApp]; show 1 + 1 + 1 ≤ sizeLine; decide, ?_⟩
        refine ⟨_, rfl, rfl, _, rfl, ?_⟩
        refine iteF ?_
        have e5 := s5 _ _ hDa e4
        have s25 := s24.trans s5
        refine ⟨.ref D, rfl, .inl ⟨rfl, _, sqL e5⟩, .str ((⟨#[x1]⟩ : Str) ++ Str.ofString "." ++ ⟨#[x2]⟩), rfl, .int k, rfl, k, rfl, hd2, _, _, rfl, rfl, ?_, D, _, _, rfl, rfl, e5, by unfold txs; rw [List.length_map, hp.1, sizeLine_eq]; omega, ?_⟩
        · rw [hd3, sizeLine_eq]
          have : ((⟨#[x1]⟩ : Str) ++ Str.ofString "." ++ ⟨#[x2]⟩).length = 3 := by rw [lenApp, lenApp]; rfl
          omega
        refine ⟨⟨_, _, _, rfl⟩, fun b o n e => ?_, ?_, p ++ [((⟨#[x1]⟩ : Str) ++ Str.ofString "." ++ ⟨#[x2]⟩) ++ Str.ofString (toString (k : Int))], ?_, ?_⟩
        · rw [upd_ne (ne_of_none e nD)]
          exact s25 _ _ n e
        · obtain ⟨l, e, n⟩ := n5
          exact ⟨l, by rw [upd_ne hDa.symm]; exact e, n⟩
        · rw [upd_same]
          unfold txs
          rw [List.map_append]
          rfl
        · refine ⟨by rw [List.length_append, List.length_singleton, hp.1], fun j z hj => ?_⟩
          rcases Nat.lt_or_ge j k with hjk | hjk
          · rw [List.getElem?_append_left (by rw [hp.1]; exact hjk)] at hj
            exact hp.2 j z hj
          · have hjk2 := (List.getElem?_eq_some_iff.mp hj).1
            rw [List.length_append, List.length_singleton, hp.1] at hjk2
            have ej : j = k := by omega
            subst ej
            rw [List.getElem?_append_right (by rw [hp.1]; exact Nat.le_refl _), hp.1, Nat.sub_self] at hj
            have hz := Option.some.inj hj
            subst hz
            exact ⟨x1, x2, m1, m2, .inr (.inl (by rw [appL, appL, appL, hd1]; rfl))⟩
      rw [decide_eq_false (fun e => h5 (by have := V.int.inj e; omega))]
      refine iteF ⟨_, rfl, rfl, _, rfl, ?_⟩
      by_cases h4 : r2 = 4
      · subst h4
        refine iteT ⟨_, rfl, _, rfl, .ref a, rfl, a, 10, rfl, by decide, n4, fun H5 r3 hr3 s5 n5 => ?_⟩
        obtain ⟨x2, g2, m2⟩ := hlt r3 hr3
        refine ⟨poolLetters, r3, x2, rfl, rfl, hsz, atI_nat g2, _, _, rfl, rfl, by show 1 + 1 ≤ sizeLine; decide, ?_⟩
        have e5 := s5 _ _ hDa e4
        have s25 := s24.trans s5
        refine ⟨.ref D, rfl, .inl ⟨rfl, _, sqL e5⟩, .str ((⟨#[x1]⟩ : Str) ++ ⟨#[x2]⟩), rfl, .int k, rfl, k, rfl, hd2, _, _, rfl, rfl, ?_, D, _, _, rfl, rfl, e5, by unfold txs; rw [List.length_map, hp.1, sizeLine_eq]; omega, ?_⟩
        · rw [hd3, sizeLine_eq]
          have : ((⟨#[x1]⟩ : Str) ++ ⟨#[x2]⟩).length = 2 := by rw [lenApp]; rfl
          omega
        refine ⟨⟨_, _, _, rfl⟩, fun b o n e => ?_, ?_, p ++ [((⟨#[x1]⟩ : Str) ++ ⟨#[x2]⟩) ++ Str.ofString (toString (k : Int))], ?_, ?_⟩
        · rw [upd_ne (ne_of_none e nD)]
          exact s25 _ _ n e
        · obtain ⟨l, e, n⟩ := n5
          exact ⟨l, by rw [upd_ne hDa.symm]; exact e, n⟩
        · rw [upd_same]
          unfold txs
          rw [List.map_append]
          rfl
        · refine ⟨by rw [List.length_append, List.length_singleton, hp.1], fun j z hj => ?_⟩
          rcases Nat.lt_or_ge j k with hjk | hjk
          · rw [List.getElem?_append_left (by rw [hp.1]; exact hjk)] at hj
            exact hp.2 j z hj
          · have hjk2 := (List.getElem?_eq_some_iff.mp hj).1
            rw [List.length_append, List.length_singleton, hp.1] at hjk2
            have ej : j = k := by omega
            subst ej
            rw [List.getElem?_append_right (by rw [hp.1]; exact Nat.le_refl _), hp.1, Nat.sub_self] at hj
            have hz := Option.some.inj hj
            subst hz
            exact ⟨x1, x2, m1, m2, .inr (.inr (by rw [appL, appL, hd1]; rfl))⟩
      rw [decide_eq_false (fun e => h4 (by have := V.int.inj e; omega))]
      refine iteF ?_
      refine ⟨.ref D, rfl, .inl ⟨rfl, _, sqL e4⟩, .str (⟨#[x1]⟩ : Str), rfl, .int k, rfl, k, rfl, hd2, _, _, rfl, rfl, ?_, D, _, _, rfl, rfl, e4, by unfold txs; rw [List.length_map, hp.1, sizeLine_eq]; omega, ?_⟩
      · rw [hd3, sizeLine_eq]
        have : (⟨#[x1]⟩ : Str).length = 1 := rfl
        omega
      refine ⟨⟨_, _, _, rfl⟩, fun b o n e => ?_, ?_, p ++ [(⟨#[x1]⟩ : Str) ++ Str.ofString (toString (k : Int))], ?_, ?_⟩
      · rw [upd_ne (ne_of_none e nD)]
        exact s24 _ _ n e
      · obtain ⟨l, e, n⟩ := n4
        exact ⟨l, by rw [upd_ne hDa.symm]; exact e, n⟩
      · rw [upd_same]
        unfold txs
        rw [List.map_append]
        rfl
      · refine ⟨by rw [List.length_append, List.length_singleton, hp.1], fun j z hj => ?_⟩
        rcases Nat.lt_or_ge j k with hjk | hjk
        · rw [List.getElem?_append_left (by rw [hp.1]; exact hjk)] at hj
          exact hp.2 j z hj
        · have hjk2 := (List.getElem?_eq_some_iff.mp hj).1
          rw [List.length_append, List.length_singleton, hp.1] at hjk2
          have ej : j = k := by omega
          subst ej
          rw [List.getElem?_append_right (by rw [hp.1]; exact Nat.le_refl _), hp.1, Nat.sub_self] at hj
          have hz := Option.some.inj hj
          subst hz
          exact ⟨x1, x1, m1, m1, .inl (by rw [appL, hd1]; rfl)⟩
    · rintro σ H2 ⟨⟨c4, c5, c6, rfl⟩, s2, n2, p, e2, hp⟩
      exact ⟨.ref D, rfl, q D H2 p hp s2 n2 nD e2⟩
end
end K7

set_option maxRecDepth 100000
set_option maxHeartbeats 4000000
namespace K7
open PySem PySem.Spec PyProof.Rows L2 GX NdefX
/-! ### _law_touch -/
def FrmT (H : Hp) (f : Addr) (gs : List Rung) : Prop := ∃ rs, H f = some (.tup (rs.map V.ref)) ∧ RgsAt H rs gs
theorem FrmT.same {H H' : Hp} {f : Addr} {gs : List Rung} (h : FrmT H f gs) (s : Same H H') : FrmT H' f gs := by
  obtain ⟨rs, h1, h2⟩ := h
  exact ⟨rs, s _ _ h1, h2.same s⟩
def spLTouch : Sp := fun vs H Q _ => ∃ (f : Addr) (gs : List Rung) (i j : Nat) (a b : Int) (g h : Rung), vs = [.ref f, .int a, .int b] ∧ a = (i : Nat) ∧ b = (j : Nat) ∧ FrmT H f gs ∧ gs[i]? = some g ∧ gs[j]? = some h ∧ Q (.bl (touchS g h)) H
/-! ### _law_frame -/
theorem lt_of_not {a b : List Nat} (h : ¬ b < a) (h2 : a ≠ b) : a < b := by
  rcases Decidable.em (a < b) with y | y
  · exact y
  · exact absurd (List.le_antisymm (List.not_lt.mp h) (List.not_lt.mp y)) h2
theorem str_ext {x y : Str} (h : x.cps.toList = y.cps.toList) : x = y := by
  cases x; cases y
  simp at h
  subst h
  rfl
theorem rising_asc : ∀ (r : List Str) (x : Str), risingS x r = true → (x :: r).Nodup → ((List.zip (x :: r) r).all fun q => decide (q.1.cps.toList < q.2.cps.toList)) = true
  | [], _, _, _ => rfl
  | y :: r, x, h, nd => by
    have h : (!ltCps y.cps.toList x.cps.toList && risingS y r) = true := h
    rw [Bool.and_eq_true] at h
    rw [List.zip_cons_cons, List.all_cons, Bool.and_eq_true]
    refine ⟨?_, rising_asc r y h.2 (List.nodup_cons.mp nd).2⟩
    rw [decide_eq_true_iff]
    have h1 := h.1
    rw [ltCps_eq] at h1
    refine lt_of_not (by simpa using h1) fun z => ?_
    have e : x = y := str_ext z
    rw [e] at nd
    exact (List.nodup_cons.mp nd).1 List.mem_cons_self
theorem sorted_asc {ys : List Str} (h : sortedS ys = true) (nd : ys.Nodup) : ascS ys = true := by
  cases ys with
  | nil => rfl
  | cons x r => exact rising_asc r x h nd
def KeepT (H H' : Hp) : Prop := ∀ b xs, H b = some (.tup xs) → H' b = some (.tup xs)
theorem KeepT.trans {H1 H2 H3 : Hp} (h : KeepT H1 H2) (k : KeepT H2 H3) : KeepT H1 H3 := fun b xs e => k b xs (h b xs e)
theorem keepT_same {H H' : Hp} (s : Same H H') : KeepT H H' := fun b xs e => s b _ e
theorem keepT_b {a : Addr} {H H' : Hp} (s : SameB a H H') (n : NumsAt H a) : KeepT H H' := fun b xs e => s b _ (fun z => by
  obtain ⟨l, e2, _⟩ := n
  rw [z, e2] at e
  cases e) e
theorem keepT_lst {H : Hp} {F : Addr} {xs ys : List V} (e : H F = some (.lst xs)) : KeepT H (upd H F (.lst ys)) := fun b zs h => by
  rw [upd_ne (fun z => by rw [z, e] at h; cases h)]
  exact h
theorem RgsAt.keep {H H' : Hp} {rs : List Addr} {gs : List Rung} (h : RgsAt H rs gs) (k : KeepT H H') : RgsAt H' rs gs := paired_imp (fun _ _ ⟨q, h1, h2⟩ => ⟨q, k _ _ h1, k _ _ h2⟩) h
theorem FrmT.keep {H H' : Hp} {f : Addr} {gs : List Rung} (h : FrmT H f gs) (k : KeepT H H') : FrmT H' f gs := by
  obtain ⟨rs, h1, h2⟩ := h
  exact ⟨rs, k _ _ h1, h2.keep k⟩
theorem nums_ne {H : Hp} {a l : Addr} (n : NumsAt H a) (h : H l = none) : l ≠ a := fun z => by
  obtain ⟨x, e, _⟩ := n
  rw [z, e] at h
  cases h
theorem none_of_b {a l : Addr} {H H' : Hp} (s : SameB a H H') (n : NumsAt H' a) (h : H' l = none) : H l = none := by
  cases e : H l with
  | none => rfl
  | some o =>
    rw [s _ _ (nums_ne n h) e] at h
    cases h
theorem txs_get {l : List Str} {i : Nat} {z : Str} (h : l[i]? = some z) : (txs l)[i]? = some (.str z) := by
  unfold txs
  rw [List.getElem?_map, h]
  rfl
theorem cut_to (xs : List V) (m : Nat) : cutV xs none (some (m : Int)) = xs.take m := by
  unfold cutV
  rw [HT.sIx_nat, show HT.sIx xs.length 0 none = 0 from rfl, Nat.sub_zero, List.drop_zero]
  by_cases h : m ≤ xs.length
  · rw [Nat.min_eq_left h]
  · rw [Nat.min_eq_right (by omega), List.take_of_length_le (Nat.le_refl _), List.take_of_length_le (by omega)]
structure FrameOk (pool : List Str) (m : Nat) (gs : List Rung) : Prop where
  len : gs.length = m
  each : ∀ (k : Nat) (g : Rung), gs[k]? = some g → pool[k]? = some g.name ∧ ascS g.reads = true ∧ (∀ z ∈ g.reads, z ∈ pool) ∧ g.reads.length ≤ 9
def spLFrame : Sp := fun vs H Q _ => ∃ (a p : Addr) (m : Nat) (pool : List Str), vs = [.ref a, .ref p, .int m] ∧ m ≤ 8 ∧ NumsAt H a ∧ a ≠ p ∧ H p = some (.lst (txs pool)) ∧ pool.length = 9 ∧ pool.Nodup ∧
  ∀ D H' gs, FrameOk pool m gs → SameB a H H' → NumsAt H' a → H D = none → FrmT H' D gs → Q (.ref D) H'
section
variable {P : Program} {w : World} {K : PySem.W.Frag} {mg : Str → Option Value} {base : Heap}
theorem ok_ltouch {f : Addr} {fd : FuncData} {k : Nat} (F : Fun K "_law_touch" "_law_touch" sLTouch f fd) : FnOk P w K mg base CX0 (k + 1) f fd ["frame", "low", "high"] spLTouch := by
  refine F.ok scLTouch (fun vs H Q E h => ?_) (fun cdv A outer s H vs Q E hr h => ?_)
  · obtain ⟨f, gs, i, j, a, b, g, h, rfl, _⟩ := h
    rfl
  · obtain ⟨f, gs, i, j, a, b, g, h, rfl, ea, eb, ⟨rs, hf, hrs⟩, hg, hh, q⟩ := h
    have hi : i < gs.length := (List.getElem?_eq_some_iff.mp hg).1
    have hj : j < gs.length := (List.getElem?_eq_some_iff.mp hh).1
    have hlen : rs.length = gs.length := hrs.length
    obtain ⟨r, hr1⟩ : ∃ r, rs[i]? = some r := ⟨_, List.getElem?_eq_getElem (by omega)⟩
    obtain ⟨t, ht1⟩ : ∃ r, rs[j]? = some r := ⟨_, List.getElem?_eq_getElem (by omega)⟩
    obtain ⟨g', hg', q1, h1, h2⟩ := paired_get hrs hr1
    obtain ⟨h', hh', q2, h3, h4⟩ := paired_get hrs ht1
    rw [hg] at hg'
    rw [hh] at hh'
    cases hg'
    cases hh'
    have x1 : (rs.map V.ref)[i]? = some (.ref r) := by rw [List.getElem?_map, hr1]; rfl
    have x2 : (rs.map V.ref)[j]? = some (.ref t) := by rw [List.getElem?_map, ht1]; rfl
    have y1 : atI (rs.map V.ref) a = some (.ref r) := by rw [ea]; exact atI_nat x1
    have y2 : atI (rs.map V.ref) b = some (.ref t) := by rw [eb]; exact atI_nat x2
    refine ⟨_, pss_one (ps_ret (pe_or (pe_cmpR op_in_seq (pe_ix ix_tup (pe_ix ix_tup (pv 0) (pv 1) (fun _ _ => rfl)) pe_int (fun _ _ => rfl)) (pe_ix ix_tup (pe_ix ix_tup (pv 0) (pv 2) (fun _ _ => rfl)) pe_int (fun _ _ => rfl)) (by rfl))
      (pe_one (pe_cmpR op_in_seq (pe_ix ix_tup (pe_ix ix_tup (pv 0) (pv 2) (fun _ _ => rfl)) pe_int (fun _ _ => rfl)) (pe_ix ix_tup (pe_ix ix_tup (pv 0) (pv 1) (fun _ _ => rfl)) pe_int (fun _ _ => rfl)) (by rfl))))), ?_⟩
    refine ⟨.ref f, rfl, .int a, rfl, f, _, a, .ref r, rfl, rfl, sqT hf, y1, r, _, 1, .str g.name, rfl, rfl, sqT h1, atI_nat (j := 1) rfl, .ref f, rfl, .int b, rfl, f, _, b, .ref t, rfl, rfl, sqT hf, y2, t, _, 0, .ref q2, rfl, rfl, sqT h3, atI_nat (j := 0) rfl, q2, _, rfl, .inr (sqT h4), rfl, flat_txs _, _, rfl, ?_⟩
    have e1 := inV_txs g.name h.reads
    have e2 := inV_txs h.name g.reads
    unfold touchS at q
    cases hm : inV (.str g.name) (txs h.reads) with
    | true =>
      rw [← e1, hm] at q
      exact iteT q
    | false =>
      rw [← e1, hm] at q
      refine iteF ⟨.ref f, rfl, .int b, rfl, f, _, b, .ref t, rfl, rfl, sqT hf, y2, t, _, 1, .str h.name, rfl, rfl, sqT h3, atI_nat (j := 1) rfl, .ref f, rfl, .int a, rfl, f, _, a, .ref r, rfl, rfl, sqT hf, y1, r, _, 0, .ref q1, rfl, rfl, sqT h1, atI_nat (j := 0) rfl, q1, _, rfl, .inr (sqT h2), rfl, flat_txs _, ?_⟩
      rw [← e2] at q
      exact q
theorem ok_lframe {f fD : Addr} {fd fdD : FuncData} (F : Fun K "_law_frame" "_law_frame" sLFrame f fd) (B : Bl mg) (FD : Fun K "_law_draw" "_law_draw" sLDraw fD fdD) (bD : Binds K fdD ["numbers", "many"] []) (gD : mg "_law_draw" = some (.ref fD)) :
    FnOk P w K mg base CX0 2 f fd ["numbers", "pool", "many"] spLFrame := by
  have GD : FnOk P w K mg base CX0 1 fD fdD ["numbers", "many"] spDraw := ok_draw FD B
  refine F.ok scLFrame (fun vs H Q E h => ?_) (fun cdv A outer s H vs Q E hr h => ?_)
  · obtain ⟨a, p, m, pool, rfl, _⟩ := h
    rfl
  · obtain ⟨a, p, m, pool, rfl, hm, hn, hap, hp, hpl, hpn, q⟩ := h
    refine ⟨_, pss_cons (ps_set (i := 3) scLFrame.nd rfl (.inr rfl) (pe_ix (r := rIxL K) ix_list (pe_lst (pa_cons pe_int (pa_cons pe_int (pa_cons pe_int (pa_cons pe_int pa_nil))))) (pe_call GD hr (by rfl) gD FD.kp bD .nil pass0 (pa_cons (pv 0) (pa_cons pe_int pa_nil))) (fun _ _ => rfl)))
      (pss_cons (ps_set (i := 4) scLFrame.nd rfl (.inl rfl) (pe_lst pa_nil))
      (pss_cons (ps_for PassesOwn.never rfl (pi_range1 (by rfl) B.range (pa_cons (pv 2) pa_nil)) (pg_name (i := 5) scLFrame.nd rfl (.inl rfl))
        (pss_cons (ps_setLc (i := 6) (own := [("name", 7)]) (g := gName 7) rfl scLFrame.nd rfl rfl (sw_true rfl rfl rfl (by decide +kernel)) (pi_list (pe_slice sl_list (pv 1) po_none (po_some (pe_op op_add (pv 2) pe_int)))) (blkOk_by (own := [("name", 7)]) (N := ["numbers", "pool", "many", "dense", "frame", "k", "reads", "name"]) (sc := defScope sLFrame) (by decide +kernel)) (fun _ _ _ _ _ => pg_name (i := 7) scLFrame.nd rfl (Or.inl rfl))
          (tt := tTest (tOp (rI0 fun i j => V.bl (decide (j ≤ i))) (tCall spDraw [] E0 (tCons (tVar 0) (tCons (tC (.int 8)) tNil))) (tOp (rI0 fun i j => V.int (i - j)) (tC (.int 8)) (tVar 3))))
          (fun _ _ _ _ _ => pts_one (pt_cmpR op_ge (pe_call GD hr (by rfl) gD FD.kp bD .nil pass0 (pa_cons (pv 0) (pa_cons pe_int pa_nil))) (pe_op op_sub pe_int (pv 3)) (nomark _)))
          (fun _ _ _ _ _ => pv 7))
        (pss_one (ps_expr (pe_bm PySem.F.plainAttrs_list PySem.F.slot_list_append PySem.F.type_list_append mt_append (pv 4) (pa_cons (pe_tup (pa_cons (pe_callTy call_tuple_of (by rfl) B.tuple (by decide +kernel) (pa_cons (pe_callB cr_sortedS (by rfl) B.sorted (by decide +kernel) (pa_cons (pv 6) pa_nil)) pa_nil)) (pa_cons (pe_ix (r := rIxL K) ix_list (pv 1) (pv 5) (fun _ _ => rfl)) pa_nil))) pa_nil))))))
      (pss_one (ps_ret (pe_callTy call_tuple_of (by rfl) B.tuple (by decide +kernel) (pa_cons (pv 4) pa_nil)))))), ?_⟩
    refine ⟨by show 4 ≤ sizeLine; decide, fun L nL => ?_⟩
    have sL : Same H (upd H L (.lst [.int 1, .int 2, .int 4, .int 6])) := same_upd nL
    refine ⟨.ref a, rfl, a, 4, rfl, by decide, hn.same sL, fun H2 r hr s2 n2 => ?_⟩
    have hLa : L ≠ a := nums_ne hn nL
    have eL := s2 _ _ hLa upd_same
    obtain ⟨dd, hdd⟩ : ∃ dd, ([.int 1, .int 2, .int 4, .int 6] : List V)[r]? = some (.int dd) := by
      rcases (by omega : r = 0 ∨ r = 1 ∨ r = 2 ∨ r = 3) with e | e | e | e <;> subst e <;> exact ⟨_, rfl⟩
    refine ⟨L, _, r, .int dd, rfl, rfl, sqL eL, atI_nat hdd, ?_⟩
    have s02 : SameB a H H2 := (sameB_of sL).trans s2
    refine ⟨Nat.zero_le _, fun F nF => ?_⟩
    have nFH : H F = none := none_of_b s02 n2 nF
    have hFa : F ≠ a := nums_ne n2 nF
    refine ⟨.int m, rfl, m, rfl, by omega, by omega, ?_⟩
    refine for_range (D := { nx := _, rt := Q }) (fun i σ H' => (∃ c5 c6, σ = [some (.ref a), some (.ref p), some (.int m), some (.int dd), some (.ref F), c5, c6, none]) ∧ SameB a H H' ∧ NumsAt H' a ∧ ∃ rs gs, H' F = some (.lst (rs.map V.ref)) ∧ RgsAt H' rs gs ∧ FrameOk pool i gs) ?_ ?_ ?_
    · exact ⟨⟨_, _, rfl⟩, s02.trans (sameB_of (same_upd nF)), n2.same (same_upd nF), [], [], upd_same, .nil, rfl, fun k g e => by simp at e⟩
    · rintro k σ H3 hk ⟨⟨c5, c6, rfl⟩, s3, n3, rs, gs, eF, hrs, hok⟩
      have hk : k < m := by
        have : k < ((m : Int)).toNat := hk
        omega
      rw [show (0 : Int) + k = k from Int.zero_add _]
      have hp3 := s3 _ _ hap.symm hp
      -- the slice
      refine ⟨.ref p, rfl, .int m, rfl, m, 1, rfl, rfl, (m : Int) + 1, rfl, ?_⟩
      refine ⟨p, txs pool, rfl, sqL hp3, fun S nS => ⟨S, rfl, ⟨_, sqL upd_same⟩, fun D nD => ?_⟩⟩
      rw [show (m : Int) + 1 = ((m + 1 : Nat) : Int) from rfl, cut_to] at nD ⊢
      have etk : (txs pool).take (m + 1) = txs (pool.take (m + 1)) := by
        unfold txs
        rw [List.map_take]
      rw [etk] at nD ⊢
      have s4 : Same H3 (upd H3 S (.lst (txs (pool.take (m + 1))))) := same_upd nS
      have n4 : NumsAt (upd H3 S (.lst (txs (pool.take (m + 1))))) a := n3.same s4
      have hDa : D ≠ a := nums_ne n4 nD
      have hSa : S ≠ a := nums_ne n3 nS
      have hDS : S ≠ D := ne_of_none upd_same nD
      have hl9 : (pool.take (m + 1)).length ≤ 9 := by
        rw [List.length_take]
        omega
      refine ⟨fun i mm H' => mm = (pool.take (m + 1)).length - i ∧ i ≤ (pool.take (m + 1)).length ∧ SameB a (upd H3 S (.lst (txs (pool.take (m + 1))))) H' ∧ NumsAt H' a ∧ ∃ us, H' D = some (.lst (txs us)) ∧ us.Sublist ((pool.take (m + 1)).take i), ⟨_, rfl, Nat.zero_le _, sameB_of (same_upd nD), n4.same (same_upd nD), [], upd_same, List.nil_sublist _⟩, ?_⟩
      rintro i mm H5 ⟨rfl, hi, s5, n5, us, eD, hsub⟩
      have eS5 := s5 _ _ hSa upd_same
      by_cases hlt : i < (pool.take (m + 1)).length
      · obtain ⟨z, hz⟩ : ∃ z, (pool.take (m + 1))[i]? = some z := ⟨_, List.getElem?_eq_getElem hlt⟩
        refine .inr ⟨⟨_, _, sqL eS5, txs_get hz⟩, fun H' => SameB a (upd H3 S (.lst (txs (pool.take (m + 1))))) H' ∧ NumsAt H' a ∧ ∃ us, H' D = some (.lst (txs us)) ∧ us.Sublist ((pool.take (m + 1)).take (i + 1)), fun H' q => ⟨_, by omega, rfl, hlt, q.1, q.2⟩, fun x H' y => ?_⟩
        obtain ⟨rfl, hx⟩ := y
        have hx := (hx _ (sqL eS5)).symm.trans (txs_get hz)
        cases hx
        refine ⟨rfl, .ref a, rfl, a, 8, rfl, by decide, n5, fun H6 r6 hr6 s6 n6 => ?_⟩
        have eD6 := s6 _ _ hDa eD
        refine ⟨.int dd, rfl, 8, dd, rfl, rfl, _, _, rfl, rfl, _, rfl, ?_⟩
        cases decide ((8 : Int) - dd ≤ (r6 : Int)) with
        | true =>
          have hl : us.length ≤ 9 := Nat.le_trans hsub.length_le (by rw [List.length_take]; omega)
          refine iteT ⟨.str z, rfl, _, eD6, by unfold txs; rw [List.length_map, sizeLine_eq]; omega, fun b o n e => ?_, ?_, us ++ [z], ?_, ?_⟩
          · rw [upd_ne (ne_of_none e nD)]
            exact s6 _ _ n (s5 _ _ n e)
          · obtain ⟨l, e, n⟩ := n6
            exact ⟨l, by rw [upd_ne hDa.symm]; exact e, n⟩
          · rw [upd_same]
            unfold txs
            rw [List.map_append]
            rfl
          · rw [take_get hz]
            exact hsub.append (List.Sublist.refl _)
        | false =>
          refine iteF ⟨s5.trans s6, n6, us, eD6, ?_⟩
          rw [take_get hz]
          exact hsub.trans (List.sublist_append_left _ _)
      · have ei : i = (pool.take (m + 1)).length := by omega
        subst ei
        refine .inl ⟨⟨_, sqL eS5, by unfold txs; rw [List.length_map]; exact Nat.le_refl _⟩, ?_⟩
        rw [List.take_of_length_le (Nat.le_refl _)] at hsub
        have hl : us.length ≤ 9 := Nat.le_trans hsub.length_le hl9
        have hund : us.Nodup := (hsub.trans (List.take_sublist _ _)).nodup hpn
        have humem : ∀ z ∈ us, z ∈ pool := fun z hz => List.mem_of_mem_take (hsub.mem hz)
        have s35 : SameB a H3 H5 := (sameB_of s4).trans s5
        have hFS : F ≠ S := ne_of_none eF nS
        have eF5 := s5 _ _ hFa (s4 _ _ eF)
        have hp5 := s35 _ _ hap.symm hp3
        obtain ⟨nm, hnm⟩ : ∃ nm, pool[k]? = some nm := ⟨_, List.getElem?_eq_getElem (by omega)⟩
        refine ⟨.ref F, rfl, .inl ⟨rfl, _, sqL eF5⟩, .ref D, rfl, D, us, rfl, sqL eD, by omega, fun ys p1 hperm hsrt np1 => ?_⟩
        refine ⟨p1, _, rfl, .inl ⟨sqL upd_same, fun q1 nq1 => ?_⟩⟩
        have s6 : Same H5 (upd (upd H5 p1 (.lst (ys.map V.str))) q1 (.tup (ys.map V.str))) := (same_upd np1).trans (same_upd nq1)
        refine ⟨.ref p, rfl, .int k, rfl, p, _, k, .str nm, rfl, rfl, sqL (s6 _ _ hp5), atI_nat (txs_get hnm), by show 2 ≤ sizeLine; decide, fun R nR => ?_⟩
        have s7 := s6.trans (same_upd nR (o := .tup [.ref q1, .str nm]))
        have eF7 := s7 _ _ eF5
        refine ⟨F, _, _, rfl, rfl, eF7, by rw [List.length_map, hrs.length, hok.len, sizeLine_eq]; omega, ?_⟩
        have kT : KeepT H3 _ := (keepT_b s35 n3).trans ((keepT_same s7).trans (keepT_lst (ys := rs.map V.ref ++ [.ref R]) eF7))
        refine ⟨⟨_, _, rfl⟩, fun b o n e => ?_, ?_, rs ++ [R], gs ++ [⟨ys, nm⟩], ?_, ?_, ?_⟩
        · rw [upd_ne (ne_of_none e nFH)]
          exact s7 _ _ (s35 _ _ n (s3 _ _ n e))
        · obtain ⟨l, e, n⟩ := n5
          exact ⟨l, by rw [upd_ne hFa.symm]; exact s7 _ _ e, n⟩
        · rw [upd_same, List.map_append]
          rfl
        · refine paired_snoc (hrs.keep kT) ⟨q1, ?_, ?_⟩
          · exact keepT_lst eF7 _ _ upd_same
          · exact keepT_lst eF7 _ _ (same_upd nR _ _ upd_same)
        · refine ⟨by rw [List.length_append, hok.len]; rfl, fun j g hj => ?_⟩
          rcases Nat.lt_or_ge j gs.length with hjk | hjk
          · rw [List.getElem?_append_left hjk] at hj
            exact hok.each j g hj
          · have hj2 := (List.getElem?_eq_some_iff.mp hj).1
            rw [List.length_append, List.length_singleton] at hj2
            have ej : j = gs.length := by omega
            subst ej
            rw [List.getElem?_append_right (Nat.le_refl _), Nat.sub_self] at hj
            have hg := Option.some.inj hj
            subst hg
            refine ⟨by rw [hok.len]; exact hnm, sorted_asc hsrt (hperm.nodup_iff.mpr hund), fun z hz => humem z (hperm.mem_iff.mp hz), by rw [hperm.length_eq]; exact hl⟩
    · rintro σ H3 ⟨⟨c5, c6, rfl⟩, s3, n3, rs, gs, eF, hrs, hok⟩
      refine ⟨.ref F, rfl, F, _, rfl, .inl ⟨sqL eF, fun l nl => ?_⟩⟩
      have sl : Same H3 (upd H3 l (.tup (rs.map V.ref))) := same_upd nl
      refine q l _ gs ?_ (s3.trans (sameB_of sl)) (n3.same sl) (none_of_b s3 n3 nl) ⟨rs, upd_same, hrs.same sl⟩
      exact hok
end
end K7

set_option maxRecDepth 100000
set_option maxHeartbeats 4000000
namespace K7
open PySem PySem.Spec PyProof.Rows L2 GX NdefX
/-! ### _law_order -/
def spLOrder : Sp := fun vs H Q _ => ∃ (a : Addr) (m : Nat), vs = [.ref a, .int m] ∧ m ≤ 100 ∧ NumsAt H a ∧ ∀ D H' ns, ns.Perm (List.range m) → SameB a H H' → NumsAt H' a → H D = none → H' D = some (.lst (nts ns)) → Q (.ref D) H'
theorem nts_at? {l : List Nat} {i n : Nat} (h : l[i]? = some n) : (nts l)[i]? = some (.int (n : Nat)) := by
  unfold nts
  rw [List.getElem?_map, h]
  rfl
theorem nts_erase (l : List Nat) (k : Nat) : (nts l).eraseIdx k = nts (l.eraseIdx k) := by
  unfold nts
  induction l generalizing k with
  | nil => rfl
  | cons x r ih =>
    cases k with
    | zero => rfl
    | succ k => exact congrArg (V.int (x : Nat) :: ·) (ih k)
theorem erase_perm : ∀ (l : List Nat) (k : Nat) (h : k < l.length), (l[k] :: l.eraseIdx k).Perm l
  | x :: r, 0, _ => List.Perm.refl _
  | x :: r, k + 1, h => (List.Perm.swap x _ _).trans ((erase_perm r k (by simpa using h)).cons x)
theorem nums_upd {H : Hp} {a F : Addr} {o : HO} (n : NumsAt H a) (h : F ≠ a) : NumsAt (upd H F o) a := by
  obtain ⟨l, e, n⟩ := n
  exact ⟨l, by rw [upd_ne h.symm]; exact e, n⟩
/-! ### _law_led -/
inductive Led (gs : List Rung) (ns : List Nat) : List Nat → Prop
  | refl : Led gs ns ns
  | step {ms : List Nat} {k u v : Nat} : Led gs ns ms → ms[k]? = some u → ms[k + 1]? = some v → touchAt gs u v = false → Led gs ns (swp ms k)
def spLed : Sp := fun vs H Q _ => ∃ (a f o : Addr) (gs : List Rung) (ns : List Nat), vs = [.ref a, .ref f, .ref o] ∧ NumsAt H a ∧ FrmT H f gs ∧ a ≠ o ∧ H o = some (.lst (nts ns)) ∧ ns.Perm (List.range gs.length) ∧ gs.length ≤ 8 ∧
  ∀ D H' ms, Led gs ns ms → SameB a H H' → NumsAt H' a → H D = none → H' D = some (.lst (nts ms)) → Q (.ref D) H'
theorem swp_perm {l : List Nat} {k : Nat} (h : k + 1 < l.length) : (swp l k).Perm l := by
  unfold swp
  rw [List.getD_eq_getElem?_getD, List.getD_eq_getElem?_getD, List.getElem?_eq_getElem h, List.getElem?_eq_getElem (show k < l.length by omega)]
  show ((l.set k l[k + 1]).set (k + 1) l[k]).Perm l
  exact List.set_set_perm (by omega) h
theorem Led.perm {gs : List Rung} {ns ms : List Nat} (h : Led gs ns ms) : ms.Perm ns := by
  induction h with
  | refl => exact List.Perm.refl _
  | step _ h1 h2 _ ih => exact (swp_perm (List.getElem?_eq_some_iff.mp h2).1).trans ih
theorem swp_nts {l : List Nat} {k u v : Nat} (h1 : l[k]? = some u) (h2 : l[k + 1]? = some v) : ((nts l).set k (.int (v : Nat))).set (k + 1) (.int (u : Nat)) = nts (swp l k) := by
  rw [nts_set, nts_set]
  unfold swp
  rw [List.getD_eq_getElem?_getD, List.getD_eq_getElem?_getD, h1, h2]
  rfl
section
variable {P : Program} {w : World} {K : PySem.W.Frag} {mg : Str → Option Value} {base : Heap}
theorem ok_lorder {f fD : Addr} {fd fdD : FuncData} (F : Fun K "_law_order" "_law_order" sLOrder f fd) (B : Bl mg) (FD : Fun K "_law_draw" "_law_draw" sLDraw fD fdD) (bD : Binds K fdD ["numbers", "many"] []) (gD : mg "_law_draw" = some (.ref fD)) :
    FnOk P w K mg base CX0 2 f fd ["numbers", "many"] spLOrder := by
  have GD : FnOk P w K mg base CX0 1 fD fdD ["numbers", "many"] spDraw := ok_draw FD B
  refine F.ok scLOrder (fun vs H Q E h => ?_) (fun cdv A outer s H vs Q E hr h => ?_)
  · obtain ⟨a, m, rfl, _⟩ := h
    rfl
  · obtain ⟨a, m, rfl, hm, hn, q⟩ := h
    refine ⟨_, pss_cons (ps_set (i := 2) scLOrder.nd rfl (.inl rfl) (pe_listRg rfl (by rfl) B.list (prg_1 (by rfl) B.range (pv 1))))
      (pss_cons (ps_set (i := 3) scLOrder.nd rfl (.inl rfl) (pe_lst pa_nil))
      (pss_cons (ps_for PassesOwn.never rfl (pi_range1 (by rfl) B.range (pa_cons (pv 1) pa_nil)) (pg_name (i := 4) scLOrder.nd rfl (.inl rfl))
        (pss_one (ps_expr (pe_bm PySem.F.plainAttrs_list PySem.F.slot_list_append PySem.F.type_list_append mt_append (pv 3) (pa_cons (pe_bm PySem.F.plainAttrs_list PySem.F.slot_list_pop PySem.F.type_list_pop mt_popAt (pv 2) (pa_cons (pe_call GD hr (by rfl) gD FD.kp bD .nil pass0 (pa_cons (pv 0) (pa_cons (pe_callB call_len (by rfl) B.len PySem.boot_len (pa_cons (pv 2) pa_nil)) pa_nil))) pa_nil)) pa_nil)))))
      (pss_one (ps_ret (pv 3))))), ?_⟩
    refine ⟨.int m, rfl, m, rfl, RgOk.of_le (by omega) (by omega) (by omega) (by omega), fun L nL => ?_⟩
    have hLa := nums_ne hn nL
    refine ⟨Nat.zero_le _, fun O nO => ?_⟩
    have hLO : L ≠ O := ne_of_none upd_same nO
    have n1 : NumsAt (upd H L (.lst (rgV 0 m))) a := hn.same (same_upd nL)
    have hOa := nums_ne n1 nO
    have nOH : H O = none := by
      rw [upd_ne hLO.symm] at nO
      exact nO
    refine ⟨.int m, rfl, m, rfl, by omega, by omega, ?_⟩
    refine for_range (D := { nx := _, rt := Q }) (fun i σ H' => (∃ c4, σ = [some (.ref a), some (.int m), some (.ref L), some (.ref O), c4]) ∧ SameB a H H' ∧ NumsAt H' a ∧ ∃ ls os, H' L = some (.lst (nts ls)) ∧ H' O = some (.lst (nts os)) ∧ (os ++ ls).Perm (List.range m) ∧ ls.length + i = m) ?_ ?_ ?_
    · refine ⟨⟨_, rfl⟩, (sameB_of (same_upd nL)).trans (sameB_of (same_upd nO)), n1.same (same_upd nO), List.range m, [], ?_, upd_same, List.Perm.refl _, by rw [List.length_range]; omega⟩
      rw [upd_ne hLO, upd_same, rg_nat]
      unfold nts
      rw [List.map_map]
      rfl
    · rintro i σ H2 hi ⟨⟨c4, rfl⟩, s2, n2, ls, os, eL, eO, hp, hl⟩
      have hi : i < m := by
        have : i < ((m : Int)).toNat := hi
        omega
      refine ⟨.ref O, rfl, .inl ⟨rfl, _, sqL eO⟩, .ref L, rfl, .inl ⟨rfl, _, sqL eL⟩, .ref a, rfl, .ref L, rfl, .ref L, ls.length, rfl, .inl ⟨_, sqL eL, (nts_len ls).symm⟩, a, ls.length, rfl, by omega, n2, fun H3 r hr3 s3 n3 => ?_⟩
      have eL3 := s3 _ _ hLa eL
      have eO3 := s3 _ _ hOa eO
      have hx : ls[r]? = some ls[r] := List.getElem?_eq_getElem hr3
      have hos : os.length ≤ m := by
        have := hp.length_eq
        rw [List.length_append, List.length_range] at this
        omega
      refine ⟨L, _, r, r, .int (ls[r] : Nat), rfl, rfl, eL3, by omega, by omega, ?_, nts_at? hx, ?_⟩
      · rw [nts_len]
        unfold seqIndex?
        simp
        omega
      refine ⟨O, _, _, rfl, rfl, by rw [upd_ne hLO.symm]; exact eO3, by rw [nts_len, sizeLine_eq]; omega, ?_⟩
      refine ⟨⟨_, rfl⟩, fun b o n e => ?_, nums_upd (nums_upd n3 hLa) hOa, ls.eraseIdx r, os ++ [ls[r]], ?_, ?_, ?_, ?_⟩
      · rw [upd_ne (ne_of_none e nOH), upd_ne (ne_of_none e nL)]
        exact s3 _ _ n (s2 _ _ n e)
      · rw [upd_ne hLO, upd_same, nts_erase]
      · rw [upd_same]
        unfold nts
        rw [List.map_append]
        rfl
      · rw [List.append_assoc]
        refine (List.Perm.append_left os ?_).trans hp
        exact erase_perm ls r hr3
      · rw [List.length_eraseIdx, if_pos hr3]
        omega
    · rintro σ H2 ⟨⟨c4, rfl⟩, s2, n2, ls, os, eL, eO, hp, hl⟩
      have hl : ls.length + ((m : Int)).toNat = m := hl
      have h0 : ls = [] := List.length_eq_zero_iff.mp (by omega)
      subst h0
      rw [List.append_nil] at hp
      exact ⟨.ref O, rfl, q O H2 os hp s2 n2 nOH eO⟩
theorem ok_led {f fD fT : Addr} {fd fdD fdT : FuncData} (F : Fun K "_law_led" "_law_led" sLLed f fd) (B : Bl mg) (FD : Fun K "_law_draw" "_law_draw" sLDraw fD fdD) (bD : Binds K fdD ["numbers", "many"] []) (gD : mg "_law_draw" = some (.ref fD))
    (FT : Fun K "_law_touch" "_law_touch" sLTouch fT fdT) (bT : Binds K fdT ["frame", "low", "high"] []) (gT : mg "_law_touch" = some (.ref fT)) :
    FnOk P w K mg base CX0 2 f fd ["numbers", "frame", "order"] spLed := by
  have GD : FnOk P w K mg base CX0 1 fD fdD ["numbers", "many"] spDraw := ok_draw FD B
  have GT : FnOk P w K mg base CX0 1 fT fdT ["frame", "low", "high"] spLTouch := ok_ltouch FT
  refine F.ok scLed (fun vs H Q E h => ?_) (fun cdv A outer s H vs Q E hr h => ?_)
  · obtain ⟨a, f, o, gs, ns, rfl, _⟩ := h
    rfl
  · obtain ⟨a, f, o, gs, ns, rfl, hn, hf, hao, ho, hp, h8, q⟩ := h
    refine ⟨_, pss_cons (ps_set (i := 3) scLed.nd rfl (.inl rfl) (pe_callTy call_list_of (by rfl) B.list (by decide +kernel) (pa_cons (pv 2) pa_nil)))
      (pss_cons (ps_for PassesOwn.never rfl (pi_range1 (by rfl) B.range (pa_cons pe_int pa_nil)) (pg_name (i := 4) scLed.nd rfl (.inl rfl))
        (pss_one (ps_if (pt_cmpR op_gt (pe_callB call_len (by rfl) B.len PySem.boot_len (pa_cons (pv 3) pa_nil)) pe_int (nomark _))
          (pss_cons (ps_set (i := 5) scLed.nd rfl (.inl rfl) (pe_call GD hr (by rfl) gD FD.kp bD .nil pass0 (pa_cons (pv 0) (pa_cons (pe_op op_sub (pe_callB call_len (by rfl) B.len PySem.boot_len (pa_cons (pv 3) pa_nil)) pe_int) pa_nil))))
          (pss_one (ps_if (pt_not (pt_val (pe_call GT hr (by rfl) gT FT.kp bT .nil pass0 (pa_cons (pv 1) (pa_cons (pe_ix (r := rIxL K) ix_list (pv 3) (pv 5) (fun _ _ => rfl)) (pa_cons (pe_ix (r := rIxL K) ix_list (pv 3) (pe_op op_add (pv 5) pe_int) (fun _ _ => rfl)) pa_nil))))))
            (pss_one (ps_asg (pe_tup (pa_cons (pe_ix (r := rIxL K) ix_list (pv 3) (pe_op op_add (pv 5) pe_int) (fun _ _ => rfl)) (pa_cons (pe_ix (r := rIxL K) ix_list (pv 3) (pv 5) (fun _ _ => rfl)) pa_nil))) (pg_tup rfl (pgs_cons (pg_sub (pv 3) (pv 5) set_list) (pgs_cons (pg_sub (pv 3) (pe_op op_add (pv 5) pe_int) set_list) pgs_nil))))) pss_nil))) pss_nil)))
      (pss_one (ps_ret (pv 3)))), ?_⟩
    refine ⟨.ref o, rfl, o, _, rfl, .inl (sqL ho), fun L nL => ?_⟩
    have hLa := nums_ne hn nL
    refine ⟨24, rfl, by decide, by decide, ?_⟩
    refine for_range (D := { nx := _, rt := Q }) (fun i σ H' => (∃ c4 c5, σ = [some (.ref a), some (.ref f), some (.ref o), some (.ref L), c4, c5]) ∧ SameB a H H' ∧ NumsAt H' a ∧ FrmT H' f gs ∧ ∃ ms, H' L = some (.lst (nts ms)) ∧ Led gs ns ms) ?_ ?_ ?_
    · exact ⟨⟨_, _, rfl⟩, sameB_of (same_upd nL), hn.same (same_upd nL), hf.same (same_upd nL), ns, upd_same, .refl⟩
    · rintro i σ H2 hi ⟨⟨c4, c5, rfl⟩, s2, n2, f2, ms, eL, hled⟩
      have hmp := hled.perm.trans hp
      have hml : ms.length = gs.length := by rw [hmp.length_eq, List.length_range]
      refine ⟨.ref L, rfl, .ref L, ms.length, rfl, .inl ⟨_, sqL eL, (nts_len ms).symm⟩, ms.length, 1, rfl, rfl, _, rfl, ?_⟩
      by_cases h1 : (1 : Int) < (ms.length : Int)
      case neg =>
        rw [decide_eq_false h1]
        exact iteF ⟨⟨_, _, rfl⟩, s2, n2, f2, ms, eL, hled⟩
      rw [decide_eq_true h1]
      refine iteT ⟨.ref a, rfl, .ref L, rfl, .ref L, ms.length, rfl, .inl ⟨_, sqL eL, (nts_len ms).symm⟩, ms.length, 1, rfl, rfl, a, ms.length - 1, ?_, by omega, n2, fun H3 k hk s3 n3 => ?_⟩
      · show [V.ref a, .int ((ms.length : Int) - 1)] = _
        rw [show (ms.length : Int) - 1 = ((ms.length - 1 : Nat) : Int) by omega]
      have eL3 := s3 _ _ hLa eL
      have f3 := f2.keep (keepT_b s3 n2)
      have hk1 : k + 1 < ms.length := by omega
      obtain ⟨u, hu⟩ : ∃ u, ms[k]? = some u := ⟨_, List.getElem?_eq_getElem (by omega)⟩
      obtain ⟨v, hv⟩ : ∃ v, ms[k + 1]? = some v := ⟨_, List.getElem?_eq_getElem hk1⟩
      have hu2 : u < gs.length := List.mem_range.mp (hmp.mem_iff.mp (List.mem_of_getElem? hu))
      have hv2 : v < gs.length := List.mem_range.mp (hmp.mem_iff.mp (List.mem_of_getElem? hv))
      obtain ⟨g, hg⟩ : ∃ g, gs[u]? = some g := ⟨_, List.getElem?_eq_getElem hu2⟩
      obtain ⟨h, hh⟩ : ∃ g, gs[v]? = some g := ⟨_, List.getElem?_eq_getElem hv2⟩
      have au : atI (nts ms) (k : Int) = some (.int (u : Nat)) := atI_nat (nts_at? hu)
      have av : atI (nts ms) ((k : Int) + 1) = some (.int (v : Nat)) := atI_nat (j := k + 1) (nts_at? hv)
      have eT : touchAt gs u v = touchS g h := by
        unfold touchAt
        rw [hg, hh]
      refine ⟨.ref f, rfl, .ref L, rfl, .int k, rfl, L, _, k, _, rfl, rfl, sqL eL3, au, .ref L, rfl, .int k, rfl, k, 1, rfl, rfl, L, _, (k : Int) + 1, _, rfl, rfl, sqL eL3, av, f, gs, u, v, u, v, g, h, rfl, rfl, rfl, f3, hg, hh, _, rfl, ?_⟩
      cases ht : touchS g h with
      | true => exact iteF ⟨⟨_, _, rfl⟩, s2.trans s3, n3, f3, ms, eL3, hled⟩
      | false =>
        refine iteT ⟨.ref L, rfl, .int k, rfl, k, 1, rfl, rfl, L, _, (k : Int) + 1, _, rfl, rfl, sqL eL3, av, .ref L, rfl, .int k, rfl, L, _, k, _, rfl, rfl, sqL eL3, au, by show 2 ≤ sizeLine; decide, fun U nU => ?_⟩
        have hLU : L ≠ U := ne_of_none eL3 nU
        refine ⟨U, _, rfl, sqT upd_same, rfl, _, _, rfl, .ref L, rfl, .int k, rfl, L, _, k, k, rfl, rfl, by rw [upd_ne hLU]; exact eL3, by rw [nts_len]; exact ixN_nat (by omega), ?_⟩
        refine ⟨_, _, rfl, .ref L, rfl, .int k, rfl, k, 1, rfl, rfl, L, _, (k : Int) + 1, k + 1, rfl, rfl, upd_same, by rw [List.length_set, nts_len]; exact ixN_nat (i := k + 1) hk1, rfl, ?_⟩
        have sU : Same H3 (upd H3 U (.tup [.int (v : Nat), .int (u : Nat)])) := same_upd nU
        have kT : KeepT H3 (upd (upd (upd H3 U (.tup [.int (v : Nat), .int (u : Nat)])) L (.lst ((nts ms).set k (.int (v : Nat))))) L (.lst (((nts ms).set k (.int (v : Nat))).set (k + 1) (.int (u : Nat))))) :=
          ((keepT_same sU).trans (keepT_lst (sU _ _ eL3))).trans (keepT_lst upd_same)
        refine ⟨⟨_, _, rfl⟩, fun b o n e => ?_, nums_upd (nums_upd (n3.same sU) hLa) hLa, f3.keep kT, swp ms k, ?_, .step hled hu hv (by rw [eT, ht])⟩
        · rw [upd_ne (ne_of_none e nL), upd_ne (ne_of_none e nL)]
          exact sU _ _ (s3 _ _ n (s2 _ _ n e))
        · rw [upd_same, swp_nts hu hv]
    · rintro σ H2 ⟨⟨c4, c5, rfl⟩, s2, n2, f2, ms, eL, hled⟩
      exact ⟨.ref L, rfl, q L H2 ms hled s2 n2 nL eL⟩
end
end K7

set_option maxRecDepth 100000
set_option maxHeartbeats 4000000
namespace K7
open PySem PySem.Spec PyProof.Rows L2 GX NdefX
/-! ### pairs low, high -/
def bef (ns : List Nat) (i j : Nat) : Bool := decide (ns.idxOf i < ns.idxOf j)
def unlb (ns ms : List Nat) (p : Nat × Nat) : Bool := bef ns p.1 p.2 != bef ms p.1 p.2
def tch (gs : List Rung) (p : Nat × Nat) : Bool := touchAt gs p.1 p.2
def part (i j : Nat) : List (Nat × Nat) := (List.range j).map fun k => (i, i + 1 + k)
def flat (n i : Nat) : List (Nat × Nat) := (List.range i).flatMap fun i => part i (n - (i + 1))
def unl (n : Nat) (ns ms : List Nat) : List (Nat × Nat) := (flat n n).filter (unlb ns ms)
theorem part_succ (i j : Nat) : part i (j + 1) = part i j ++ [(i, i + 1 + j)] := by
  unfold part
  rw [List.range_succ, List.map_append]
  rfl
theorem flat_succ (n i : Nat) : flat n (i + 1) = flat n i ++ part i (n - (i + 1)) := by
  unfold flat
  rw [List.range_succ, List.flatMap_append]
  simp
theorem part_len (i j : Nat) : (part i j).length = j := by
  unfold part
  rw [List.length_map, List.length_range]
theorem flat_len (n : Nat) : ∀ i, (flat n i).length ≤ i * n
  | 0 => Nat.zero_le _
  | i + 1 => by
    rw [flat_succ, List.length_append, part_len, Nat.add_mul]
    have := flat_len n i
    omega
theorem mem_flat {n : Nat} {p : Nat × Nat} : p ∈ flat n n ↔ p.1 < p.2 ∧ p.2 < n := by
  unfold flat part
  rw [List.mem_flatMap]
  constructor
  · rintro ⟨i, hi, h⟩
    obtain ⟨k, hk, rfl⟩ := List.mem_map.mp h
    have h1 := List.mem_range.mp hi
    have h2 := List.mem_range.mp hk
    show i < i + 1 + k ∧ i + 1 + k < n
    omega
  · rintro ⟨h1, h2⟩
    refine ⟨p.1, List.mem_range.mpr (by omega), List.mem_map.mpr ⟨p.2 - (p.1 + 1), List.mem_range.mpr (by omega), ?_⟩⟩
    refine Prod.ext rfl ?_
    show p.1 + 1 + (p.2 - (p.1 + 1)) = p.2
    omega
theorem flat_nodup (n : Nat) : (flat n n).Nodup := by
  unfold flat
  refine List.pairwise_flatMap.mpr ⟨fun i _ => ?_, ?_⟩
  · unfold part
    rw [List.pairwise_map]
    refine List.nodup_range.imp fun h e => h ?_
    have := (Prod.mk.inj e).2
    omega
  · refine List.pairwise_lt_range.imp fun h x hx y hy e => ?_
    obtain ⟨k, _, rfl⟩ := List.mem_map.mp hx
    obtain ⟨l, _, rfl⟩ := List.mem_map.mp hy
    have := (Prod.mk.inj e).1
    omega
theorem touchL_nodup (gs : List Rung) (n : Nat) : (touchL gs n).Nodup := by
  unfold touchL
  refine List.pairwise_flatMap.mpr ⟨fun i _ => ?_, ?_⟩
  · unfold rowT
    rw [List.pairwise_map]
    refine (List.nodup_range.filter _).imp fun h e => h ?_
    exact (Prod.mk.inj e).1
  · refine List.pairwise_lt_range.imp fun h x hx y hy e => ?_
    obtain ⟨k, _, rfl⟩ := List.mem_map.mp hx
    obtain ⟨l, _, rfl⟩ := List.mem_map.mp hy
    have := (Prod.mk.inj e).2
    omega
theorem mem_touchL {gs : List Rung} {n : Nat} {p : Nat × Nat} : p ∈ touchL gs n ↔ p.1 < p.2 ∧ p.2 < n ∧ tch gs p = true := by
  constructor
  · exact touchL_mem
  · rintro ⟨h1, h2, h3⟩
    unfold touchL rowT
    refine List.mem_flatMap.mpr ⟨p.2, List.mem_range.mpr h2, List.mem_map.mpr ⟨p.1, List.mem_filter.mpr ⟨List.mem_range.mpr h1, h3⟩, rfl⟩⟩
theorem touch_perm (gs : List Rung) (n : Nat) : ((flat n n).filter (tch gs)).Perm (touchL gs n) := by
  refine (List.perm_ext_iff_of_nodup ((flat_nodup n).filter _) (touchL_nodup gs n)).mpr fun p => ?_
  rw [List.mem_filter, mem_flat, mem_touchL]
  exact ⟨fun h => ⟨h.1.1, h.1.2, h.2⟩, fun h => ⟨⟨h.1, h.2.1⟩, h.2.2⟩⟩
theorem sortP_congr {l m : List (Nat × Nat)} (p : l.Perm m) : sortP l = sortP m := sortP_eq ((sortP_perm l).trans p) (sortP_sorted l)
theorem idx_first : ∀ {ns : List Nat} {x m y : Nat}, m < ns.idxOf x → ns[m]? = some y → y ≠ x
  | [], x, m, y, h, e => by simp at e
  | z :: r, x, m, y, h, e => by
    rw [List.idxOf_cons] at h
    cases hz : (z == x) with
    | true =>
      rw [hz] at h
      exact absurd h (Nat.not_lt_zero _)
    | false =>
      rw [hz] at h
      cases m with
      | zero =>
        have e := Option.some.inj e
        subst e
        exact fun q => by simp [q] at hz
      | succ m =>
        have h : m + 1 < r.idxOf x + 1 := h
        exact idx_first (ns := r) (by omega) e
def spUnlike : Sp := fun vs H Q _ => ∃ (o p : Addr) (n : Nat) (ns ms : List Nat), vs = [.ref o, .ref p] ∧ n ≤ 8 ∧ H o = some (.lst (nts ns)) ∧ H p = some (.lst (nts ms)) ∧ ns.Perm (List.range n) ∧ ms.Perm (List.range n) ∧
  ∀ D H' ts, Same H H' → H D = none → H' D = some (.lst ts) → PairsAt H' ts (unl n ns ms) → Q (.ref D) H'
def spLDirs : Sp := fun vs H Q _ => ∃ (f o : Addr) (gs : List Rung) (ns : List Nat), vs = [.ref f, .ref o] ∧ gs.length ≤ 8 ∧ FrmT H f gs ∧ H o = some (.lst (nts ns)) ∧ ns.Perm (List.range gs.length) ∧
  ∀ D H' ts, Same H H' → H D = none → H' D = some (.tup ts) → PairsAt H' ts (dirs gs ns) → Q (.ref D) H'
section
variable {P : Program} {w : World} {K : PySem.W.Frag} {mg : Str → Option Value} {base : Heap}
theorem index_ok {H : Hp} {L : Addr} {ns : List Nat} {x : Nat} {k : Int} {Q : VK} (h : H L = some (.lst (nts ns))) (hk : k = (x : Nat)) (hx : x ∈ ns) (q : Q (.int (ns.idxOf x : Nat)) H) : rIndex K (.ref L) [.int k] H Q := by
  subst hk
  refine ⟨L, nts ns, .int (x : Nat), ns.idxOf x, .int (x : Nat), rfl, rfl, sqL h, rfl, ?_, nts_at? (idx_get hx), ?_, fun m z' hm hz => ?_, q⟩
  · rw [List.all_eq_true]
    intro y hy
    obtain ⟨n, _, rfl⟩ := List.mem_map.mp hy
    rfl
  · simp [eqV]
  · obtain ⟨n, hn, rfl⟩ := nts_get hz
    have := idx_first hm hn
    simp [eqV]
    omega
theorem pairs_snoc {H H' : Hp} {D T : Addr} {ts : List V} {ps : List (Nat × Nat)} {a b : Nat} (eD : H D = some (.lst ts)) (pt : PairsAt H ts ps) (nT : H T = none) (e : H' = upd (upd H T (.tup [.int (a : Nat), .int (b : Nat)])) D (.lst (ts ++ [.ref T]))) : H' D = some (.lst (ts ++ [.ref T])) ∧ PairsAt H' (ts ++ [.ref T]) (ps ++ [(a, b)]) := by
  subst e
  have nTD : D ≠ T := ne_of_none eD nT
  refine ⟨upd_same, paired_snoc (paired_imp (fun u p hu => ?_) pt) ⟨T, rfl, ?_⟩⟩
  · obtain ⟨U, e, hU⟩ := hu
    refine ⟨U, e, ?_⟩
    rw [upd_ne (fun z => by rw [z, eD] at hU; cases hU)]
    exact same_upd nT _ _ hU
  · rw [upd_ne nTD.symm, upd_same]
theorem ok_unlike {f : Addr} {fd : FuncData} {k : Nat} (F : Fun K "_law_unlike" "_law_unlike" sLUnlike f fd) (B : Bl mg) : FnOk P w K mg base CX0 (k + 1) f fd ["order", "other"] spUnlike := by
  refine F.ok scUnlike (fun vs H Q E h => ?_) (fun cdv A outer s H vs Q E hr h => ?_)
  · obtain ⟨o, p, n, ns, ms, rfl, _⟩ := h
    rfl
  · obtain ⟨o, p, n, ns, ms, rfl, h8, ho, hp, pn, pm, q⟩ := h
    have hnl : ns.length = n := by rw [pn.length_eq, List.length_range]
    refine ⟨_, pss_cons (ps_set (i := 2) scUnlike.nd rfl (.inl rfl) (pe_lst pa_nil))
      (pss_cons (ps_for PassesOwn.never rfl (pi_range1 (by rfl) B.range (pa_cons (pe_callB call_len (by rfl) B.len PySem.boot_len (pa_cons (pv 0) pa_nil)) pa_nil)) (pg_name (i := 3) scUnlike.nd rfl (.inl rfl))
        (pss_one (ps_for PassesOwn.never rfl (pi_range2 (by rfl) B.range (pa_cons (pe_op op_add (pv 3) pe_int) (pa_cons (pe_callB call_len (by rfl) B.len PySem.boot_len (pa_cons (pv 0) pa_nil)) pa_nil))) (pg_name (i := 4) scUnlike.nd rfl (.inl rfl))
          (pss_one (ps_if (pt_cmpR op_ne
            (pe_cmpR op_lt (pe_bm (r := rIndex K) PySem.F.plainAttrs_list PySem.F.slot_list_index PySem.F.type_list_index mt_index (pv 0) (pa_cons (pv 3) pa_nil)) (pe_bm (r := rIndex K) PySem.F.plainAttrs_list PySem.F.slot_list_index PySem.F.type_list_index mt_index (pv 0) (pa_cons (pv 4) pa_nil)) (nomark _))
            (pe_cmpR op_lt (pe_bm (r := rIndex K) PySem.F.plainAttrs_list PySem.F.slot_list_index PySem.F.type_list_index mt_index (pv 1) (pa_cons (pv 3) pa_nil)) (pe_bm (r := rIndex K) PySem.F.plainAttrs_list PySem.F.slot_list_index PySem.F.type_list_index mt_index (pv 1) (pa_cons (pv 4) pa_nil)) (nomark _)) (nomark _))
            (pss_one (ps_expr (pe_bm PySem.F.plainAttrs_list PySem.F.slot_list_append PySem.F.type_list_append mt_append (pv 2) (pa_cons (pe_tup (pa_cons (pv 3) (pa_cons (pv 4) pa_nil))) pa_nil)))) pss_nil)))))
      (pss_one (ps_ret (pv 2)))), ?_⟩
    refine ⟨Nat.zero_le _, fun D nD => ?_⟩
    have s0 : Same H (upd H D (.lst [])) := same_upd nD
    refine ⟨.ref o, rfl, .ref o, n, rfl, .inl ⟨_, sqL (s0 _ _ ho), by rw [nts_len, hnl]⟩, n, rfl, by omega, by omega, ?_⟩
    refine for_range (D := { nx := _, rt := Q }) (fun i σ H' => (∃ c3 c4, σ = [some (.ref o), some (.ref p), some (.ref D), c3, c4]) ∧ Same H H' ∧ ∃ ts, H' D = some (.lst ts) ∧ PairsAt H' ts ((flat n i).filter (unlb ns ms))) ?_ ?_ ?_
    · exact ⟨⟨_, _, rfl⟩, s0, [], upd_same, .nil⟩
    · rintro i σ H2 hi ⟨⟨c3, c4, rfl⟩, s2, ts, eD, pt⟩
      have hi : i < n := by
        have : i < ((n : Int)).toNat := hi
        omega
      rw [show (0 : Int) + i = i from Int.zero_add _]
      refine ⟨.int i, rfl, i, 1, rfl, rfl, .ref o, rfl, .ref o, n, rfl, .inl ⟨_, sqL (s2 _ _ ho), by rw [nts_len, hnl]⟩, (i : Int) + 1, n, rfl, ⟨by omega, by omega, by omega, by omega⟩, ?_⟩
      have en : ((n : Int) - ((i : Int) + 1)).toNat = n - (i + 1) := by omega
      rw [en]
      refine for_range (D := { nx := _, rt := Q }) (fun j σ H' => (∃ c4, σ = [some (.ref o), some (.ref p), some (.ref D), some (.int i), c4]) ∧ Same H H' ∧ ∃ ts, H' D = some (.lst ts) ∧ PairsAt H' ts ((flat n i ++ part i j).filter (unlb ns ms))) ?_ ?_ ?_
      · refine ⟨⟨_, rfl⟩, s2, ts, eD, ?_⟩
        show PairsAt H2 ts ((flat n i ++ []).filter _)
        rw [List.append_nil]
        exact pt
      · rintro j σ H3 hj ⟨⟨c4, rfl⟩, s3, ts, eD, pt⟩
        rw [show (i : Int) + 1 + (j : Int) = ((i + 1 + j : Nat) : Int) from rfl]
        have hin : ∀ x, x < n → x ∈ ns ∧ x ∈ ms := fun x hx => ⟨pn.mem_iff.mpr (List.mem_range.mpr hx), pm.mem_iff.mpr (List.mem_range.mpr hx)⟩
        have h1 := hin i hi
        have h2 := hin (i + 1 + j) (by omega)
        have ho3 := s3 _ _ ho
        have hp3 := s3 _ _ hp
        refine ⟨.ref o, rfl, .inl ⟨rfl, _, sqL ho3⟩, .int i, rfl, ?_⟩
        (try delta tNil)
        refine index_ok ho3 rfl h1.1 ?_
        refine ⟨.ref o, rfl, .inl ⟨rfl, _, sqL ho3⟩, .int (i + 1 + j : Nat), rfl, ?_⟩
        (try delta tNil)
        refine index_ok ho3 rfl h2.1 ?_
        refine ⟨_, _, rfl, rfl, .ref p, rfl, .inl ⟨rfl, _, sqL hp3⟩, .int i, rfl, ?_⟩
        (try delta tNil)
        refine index_ok hp3 rfl h1.2 ?_
        refine ⟨.ref p, rfl, .inl ⟨rfl, _, sqL hp3⟩, .int (i + 1 + j : Nat), rfl, ?_⟩
        (try delta tNil)
        refine index_ok hp3 rfl h2.2 ?_
        refine ⟨_, _, rfl, rfl, rfl, _, rfl, ?_⟩
        rw [part_succ, ← List.append_assoc, List.filter_append]
        have eb : (!decide (V.bl (decide ((ns.idxOf i : Int) < (ns.idxOf (i + 1 + j) : Int))) = V.bl (decide ((ms.idxOf i : Int) < (ms.idxOf (i + 1 + j) : Int))))) = unlb ns ms (i, i + 1 + j) := by
          unfold unlb bef
          show _ = (decide (ns.idxOf i < ns.idxOf (i + 1 + j)) != decide (ms.idxOf i < ms.idxOf (i + 1 + j)))
          rw [show decide ((ns.idxOf i : Int) < (ns.idxOf (i + 1 + j) : Int)) = decide (ns.idxOf i < ns.idxOf (i + 1 + j)) from decide_eq_decide.mpr (by omega), show decide ((ms.idxOf i : Int) < (ms.idxOf (i + 1 + j) : Int)) = decide (ms.idxOf i < ms.idxOf (i + 1 + j)) from decide_eq_decide.mpr (by omega)]
          cases decide (ns.idxOf i < ns.idxOf (i + 1 + j)) <;> cases decide (ms.idxOf i < ms.idxOf (i + 1 + j)) <;> rfl
        rw [eb]
        have hlen : ts.length ≤ 100 := by
          rw [pt.length]
          refine Nat.le_trans (List.length_filter_le _ _) ?_
          rw [List.length_append, part_len]
          have a1 := flat_len n i
          have a2 : i * n ≤ 8 * 8 := Nat.mul_le_mul (by omega) h8
          omega
        cases hu : unlb ns ms (i, i + 1 + j) with
        | false =>
          refine iteF ⟨⟨_, rfl⟩, s3, ts, eD, ?_⟩
          rw [List.filter_cons_of_neg (by rw [hu]; decide), List.filter_nil, List.append_nil]
          exact pt
        | true =>
          refine iteT ⟨.ref D, rfl, .inl ⟨rfl, _, sqL eD⟩, .int i, rfl, .int (i + 1 + j : Nat), rfl, by show 2 ≤ sizeLine; decide, fun T nT => ?_⟩
          have nTD : D ≠ T := ne_of_none eD nT
          refine ⟨D, ts, _, rfl, rfl, by rw [upd_ne nTD]; exact eD, by rw [sizeLine_eq]; omega, ?_⟩
          obtain ⟨z1, z2⟩ := pairs_snoc eD pt nT rfl
          refine ⟨⟨_, rfl⟩, fun b x e => ?_, ts ++ [.ref T], z1, ?_⟩
          · rw [upd_ne (ne_of_none e nD)]
            exact same_upd nT _ _ (s3 _ _ e)
          · rw [List.filter_cons_of_pos hu, List.filter_nil]
            exact z2
      · rintro σ H3 ⟨⟨c4, rfl⟩, s3, ts, eD, pt⟩
        refine ⟨⟨_, _, rfl⟩, s3, ts, eD, ?_⟩
        rw [flat_succ]
        exact pt
    · rintro σ H3 ⟨⟨c3, c4, rfl⟩, s3, ts, eD, pt⟩
      exact ⟨.ref D, rfl, q D H3 ts s3 nD eD pt⟩
end
end K7

set_option maxRecDepth 100000
set_option maxHeartbeats 4000000
namespace K7
open PySem PySem.Spec PyProof.Rows L2 GX NdefX
section
variable {P : Program} {w : World} {K : PySem.W.Frag} {mg : Str → Option Value} {base : Heap}
theorem ok_ldirs {f fT : Addr} {fd fdT : FuncData} (F : Fun K "_law_directions" "_law_directions" sLDirs f fd) (B : Bl mg) (FT : Fun K "_law_touch" "_law_touch" sLTouch fT fdT) (bT : Binds K fdT ["frame", "low", "high"] []) (gT : mg "_law_touch" = some (.ref fT)) :
    FnOk P w K mg base CX0 2 f fd ["frame", "order"] spLDirs := by
  have GT : FnOk P w K mg base CX0 1 fT fdT ["frame", "low", "high"] spLTouch := ok_ltouch FT
  refine F.ok scLDirs (fun vs H Q E h => ?_) (fun cdv A outer s H vs Q E hr h => ?_)
  · obtain ⟨f, o, gs, ns, rfl, _⟩ := h
    rfl
  · obtain ⟨f, o, gs, ns, rfl, h8, hf, ho, pn, q⟩ := h
    have hnl : ns.length = gs.length := by rw [pn.length_eq, List.length_range]
    have hlenF : ∀ H', Same H H' → LenV K (.ref f) H' gs.length := fun H' s' => by
      obtain ⟨rs, h1, h2⟩ := hf
      exact .inr ⟨_, sqT (s' _ _ h1), by rw [List.length_map, h2.length]⟩
    refine ⟨_, pss_cons (ps_set (i := 2) scLDirs.nd rfl (.inl rfl) (pe_lst pa_nil))
      (pss_cons (ps_for PassesOwn.never rfl (pi_range1 (by rfl) B.range (pa_cons (pe_callB call_len (by rfl) B.len PySem.boot_len (pa_cons (pv 0) pa_nil)) pa_nil)) (pg_name (i := 3) scLDirs.nd rfl (.inl rfl))
        (pss_one (ps_for PassesOwn.never rfl (pi_range2 (by rfl) B.range (pa_cons (pe_op op_add (pv 3) pe_int) (pa_cons (pe_callB call_len (by rfl) B.len PySem.boot_len (pa_cons (pv 0) pa_nil)) pa_nil))) (pg_name (i := 4) scLDirs.nd rfl (.inl rfl))
          (pss_one (ps_if (pt_val (pe_call GT hr (by rfl) gT FT.kp bT .nil pass0 (pa_cons (pv 0) (pa_cons (pv 3) (pa_cons (pv 4) pa_nil)))))
            (pss_one (ps_if (pt_cmpR op_lt (pe_bm (r := rIndex K) PySem.F.plainAttrs_list PySem.F.slot_list_index PySem.F.type_list_index mt_index (pv 1) (pa_cons (pv 3) pa_nil)) (pe_bm (r := rIndex K) PySem.F.plainAttrs_list PySem.F.slot_list_index PySem.F.type_list_index mt_index (pv 1) (pa_cons (pv 4) pa_nil)) (nomark _))
              (pss_one (ps_expr (pe_bm PySem.F.plainAttrs_list PySem.F.slot_list_append PySem.F.type_list_append mt_append (pv 2) (pa_cons (pe_tup (pa_cons (pv 3) (pa_cons (pv 4) pa_nil))) pa_nil))))
              (pss_one (ps_expr (pe_bm PySem.F.plainAttrs_list PySem.F.slot_list_append PySem.F.type_list_append mt_append (pv 2) (pa_cons (pe_tup (pa_cons (pv 4) (pa_cons (pv 3) pa_nil))) pa_nil)))))) pss_nil)))))
      (pss_one (ps_ret (pe_callTy call_tuple_of (by rfl) B.tuple (by decide +kernel) (pa_cons (pe_callB cr_sortedPO (by rfl) B.sorted (by decide +kernel) (pa_cons (pv 2) pa_nil)) pa_nil))))), ?_⟩
    refine ⟨Nat.zero_le _, fun D nD => ?_⟩
    have s0 : Same H (upd H D (.lst [])) := same_upd nD
    refine ⟨.ref f, rfl, .ref f, gs.length, rfl, hlenF _ s0, gs.length, rfl, by omega, by omega, ?_⟩
    refine for_range (D := { nx := _, rt := Q }) (fun i σ H' => (∃ c3 c4, σ = [some (.ref f), some (.ref o), some (.ref D), c3, c4]) ∧ Same H H' ∧ ∃ ts, H' D = some (.lst ts) ∧ PairsAt H' ts (((flat gs.length i).filter (tch gs)).map (orient ns))) ?_ ?_ ?_
    · exact ⟨⟨_, _, rfl⟩, s0, [], upd_same, .nil⟩
    · rintro i σ H2 hi ⟨⟨c3, c4, rfl⟩, s2, ts, eD, pt⟩
      have hi : i < gs.length := by
        have : i < ((gs.length : Int)).toNat := hi
        omega
      rw [show (0 : Int) + i = i from Int.zero_add _]
      refine ⟨.int i, rfl, i, 1, rfl, rfl, .ref f, rfl, .ref f, gs.length, rfl, hlenF _ s2, (i : Int) + 1, gs.length, rfl, ⟨by omega, by omega, by omega, by omega⟩, ?_⟩
      have en : ((gs.length : Int) - ((i : Int) + 1)).toNat = gs.length - (i + 1) := by omega
      rw [en]
      refine for_range (D := { nx := _, rt := Q }) (fun j σ H' => (∃ c4, σ = [some (.ref f), some (.ref o), some (.ref D), some (.int i), c4]) ∧ Same H H' ∧ ∃ ts, H' D = some (.lst ts) ∧ PairsAt H' ts (((flat gs.length i ++ part i j).filter (tch gs)).map (orient ns))) ?_ ?_ ?_
      · refine ⟨⟨_, rfl⟩, s2, ts, eD, ?_⟩
        show PairsAt H2 ts (((flat gs.length i ++ []).filter _).map _)
        rw [List.append_nil]
        exact pt
      · rintro j σ H3 hj ⟨⟨c4, rfl⟩, s3, ts, eD, pt⟩
        rw [show (i : Int) + 1 + (j : Int) = ((i + 1 + j : Nat) : Int) from rfl]
        have hin : ∀ x, x < gs.length → x ∈ ns := fun x hx => pn.mem_iff.mpr (List.mem_range.mpr hx)
        have h1 := hin i hi
        have hj2 : i + 1 + j < gs.length := by omega
        have h2 := hin (i + 1 + j) hj2
        have ho3 := s3 _ _ ho
        obtain ⟨g, hg⟩ : ∃ g, gs[i]? = some g := ⟨_, List.getElem?_eq_getElem hi⟩
        obtain ⟨h, hh⟩ : ∃ g, gs[i + 1 + j]? = some g := ⟨_, List.getElem?_eq_getElem hj2⟩
        have eT : tch gs (i, i + 1 + j) = touchS g h := by
          show touchAt gs i (i + 1 + j) = _
          unfold touchAt
          rw [hg, hh]
        refine ⟨.ref f, rfl, .int i, rfl, .int (i + 1 + j : Nat), rfl, f, gs, i, i + 1 + j, i, (i + 1 + j : Nat), g, h, rfl, rfl, rfl, hf.same s3, hg, hh, _, rfl, ?_⟩
        rw [part_succ, ← List.append_assoc, List.filter_append]
        have hlen : ts.length ≤ 100 := by
          rw [pt.length, List.length_map]
          refine Nat.le_trans (List.length_filter_le _ _) ?_
          rw [List.length_append, part_len]
          have a1 := flat_len gs.length i
          have a2 : i * gs.length ≤ 8 * 8 := Nat.mul_le_mul (by omega) h8
          omega
        cases hu : touchS g h with
        | false =>
          refine iteF ⟨⟨_, rfl⟩, s3, ts, eD, ?_⟩
          rw [List.filter_cons_of_neg (by rw [eT, hu]; decide), List.filter_nil, List.append_nil]
          exact pt
        | true =>
          rw [List.filter_cons_of_pos (by rw [eT, hu]), List.filter_nil, List.map_append]
          refine iteT ⟨.ref o, rfl, .inl ⟨rfl, _, sqL ho3⟩, .int i, rfl, ?_⟩
          (try delta tNil)
          refine index_ok ho3 rfl h1 ?_
          refine ⟨.ref o, rfl, .inl ⟨rfl, _, sqL ho3⟩, .int (i + 1 + j : Nat), rfl, ?_⟩
          (try delta tNil)
          refine index_ok ho3 rfl h2 ?_
          refine ⟨_, _, rfl, rfl, _, rfl, ?_⟩
          by_cases hb : ns.idxOf i < ns.idxOf (i + 1 + j)
          · have eo : orient ns (i, i + 1 + j) = (i, i + 1 + j) := if_pos hb
            rw [decide_eq_true (by omega), List.map_singleton, eo]
            refine iteT ⟨.ref D, rfl, .inl ⟨rfl, _, sqL eD⟩, .int i, rfl, .int (i + 1 + j : Nat), rfl, by show 2 ≤ sizeLine; decide, fun T nT => ?_⟩
            have nTD : D ≠ T := ne_of_none eD nT
            refine ⟨D, ts, _, rfl, rfl, by rw [upd_ne nTD]; exact eD, by rw [sizeLine_eq]; omega, ?_⟩
            obtain ⟨z1, z2⟩ := pairs_snoc eD pt nT rfl
            refine ⟨⟨_, rfl⟩, fun b x e => ?_, ts ++ [.ref T], z1, z2⟩
            rw [upd_ne (ne_of_none e nD)]
            exact same_upd nT _ _ (s3 _ _ e)
          · have eo : orient ns (i, i + 1 + j) = (i + 1 + j, i) := if_neg hb
            rw [decide_eq_false (by omega), List.map_singleton, eo]
            refine iteF ⟨.ref D, rfl, .inl ⟨rfl, _, sqL eD⟩, .int (i + 1 + j : Nat), rfl, .int i, rfl, by show 2 ≤ sizeLine; decide, fun T nT => ?_⟩
            have nTD : D ≠ T := ne_of_none eD nT
            refine ⟨D, ts, _, rfl, rfl, by rw [upd_ne nTD]; exact eD, by rw [sizeLine_eq]; omega, ?_⟩
            obtain ⟨z1, z2⟩ := pairs_snoc eD pt nT rfl
            refine ⟨⟨_, rfl⟩, fun b x e => ?_, ts ++ [.ref T], z1, z2⟩
            rw [upd_ne (ne_of_none e nD)]
            exact same_upd nT _ _ (s3 _ _ e)
      · rintro σ H3 ⟨⟨c4, rfl⟩, s3, ts, eD, pt⟩
        refine ⟨⟨_, _, rfl⟩, s3, ts, eD, ?_⟩
        rw [flat_succ]
        exact pt
    · rintro σ H3 ⟨⟨c3, c4, rfl⟩, s3, ts, eD, pt⟩
      have pt : PairsAt H3 ts (((flat gs.length gs.length).filter (tch gs)).map (orient ns)) := pt
      refine ⟨.ref D, rfl, D, ts, kOf H3, rfl, sqL eD, fun x hx => ?_, fun ys p st sb np => ?_⟩
      · obtain ⟨T, rfl, hT⟩ := pairs_mem pt x hx
        refine ⟨T, rfl, ?_⟩
        rw [kOf_pair hT]
        exact hT
      · have pys := sorted_pairs pt st sb
        rw [sortP_congr ((touch_perm gs gs.length).map _)] at pys
        refine ⟨p, ys, rfl, .inl ⟨sqL upd_same, fun l nl => ?_⟩⟩
        have s4 : Same H3 (upd H3 p (.lst ys)) := same_upd np
        have s5 := s4.trans (same_upd nl (o := .tup ys))
        exact q l _ ys (s3.trans s5) (none_of_same (s3.trans s4) nl) upd_same (pys.same s5)
end
end K7

set_option maxRecDepth 100000
set_option maxHeartbeats 4000000
namespace K7
open PySem PySem.Spec PyProof.Rows L2 GX NdefX
/-! ### the mathematics of swaps -/
theorem idx_of_get {l : List Nat} {i x : Nat} (nd : l.Nodup) (h : l[i]? = some x) : l.idxOf x = i := by
  obtain ⟨hi, rfl⟩ := List.getElem?_eq_some_iff.mp h
  have h2 := idx_get (List.getElem_mem hi)
  obtain ⟨hj, e⟩ := List.getElem?_eq_some_iff.mp h2
  exact (List.getElem_inj (h₀ := hj) (h₁ := hi) nd).mp e
theorem swp_get {l : List Nat} {k : Nat} (h : k + 1 < l.length) (p : Nat) : (swp l k)[p]? = if p = k then l[k + 1]? else if p = k + 1 then l[k]? else l[p]? := by
  unfold swp
  rw [List.getElem?_set, List.getElem?_set, List.length_set, List.getD_eq_getElem?_getD, List.getD_eq_getElem?_getD, List.getElem?_eq_getElem h, List.getElem?_eq_getElem (show k < l.length by omega)]
  by_cases h1 : p = k
  · subst h1
    simp
    omega
  · by_cases h2 : p = k + 1
    · subst h2
      simp [h]
    · have h3 : ¬ k + 1 = p := fun z => h2 z.symm
      have h4 : ¬ k = p := fun z => h1 z.symm
      simp [h1, h2, h3, h4]
theorem swp_getD {l : List Nat} {k : Nat} (h : k + 1 < l.length) (p : Nat) : (swp l k).getD p 0 = if p = k then l.getD (k + 1) 0 else if p = k + 1 then l.getD k 0 else l.getD p 0 := by
  simp only [List.getD_eq_getElem?_getD, swp_get h]
  split
  · rfl
  · split <;> rfl
theorem swp_map (f : Nat → Nat) {l : List Nat} {k : Nat} (h : k + 1 < l.length) : swp (l.map f) k = (swp l k).map f := by
  refine List.ext_getElem? fun p => ?_
  rw [swp_get (by rw [List.length_map]; exact h)]
  simp only [List.getElem?_map]
  rw [swp_get h]
  split
  · rfl
  · split <;> rfl
def tr (k p : Nat) : Nat := if p = k then k + 1 else if p = k + 1 then k else p
theorem idx_swp {l : List Nat} {k x : Nat} (nd : l.Nodup) (h : k + 1 < l.length) (hx : x ∈ l) : (swp l k).idxOf x = tr k (l.idxOf x) := by
  have hg := idx_get hx
  refine idx_of_get ((swp_perm h).nodup_iff.mpr nd) ?_
  rw [swp_get h]
  unfold tr
  by_cases h1 : l.idxOf x = k
  · rw [h1] at hg
    rw [if_pos h1, if_neg (by omega), if_pos rfl]
    exact hg
  · by_cases h2 : l.idxOf x = k + 1
    · rw [h2] at hg
      rw [if_neg h1, if_pos h2, if_pos rfl]
      exact hg
    · rw [if_neg h1, if_neg h2, if_neg h1, if_neg h2]
      exact hg
theorem idx_ne {l : List Nat} {x y : Nat} (hx : x ∈ l) (hy : y ∈ l) (h : x ≠ y) : l.idxOf x ≠ l.idxOf y := fun e => by
  have h1 := idx_get hx
  have h2 := idx_get hy
  rw [e, h2] at h1
  exact h (Option.some.inj h1).symm
/-- a swap changes the order of the two swapped alone -/
theorem bef_swp {l : List Nat} {k x y : Nat} (nd : l.Nodup) (h : k + 1 < l.length) (hx : x ∈ l) (hy : y ∈ l) (hxy : x ≠ y) (hne : ¬ ((l.idxOf x = k ∧ l.idxOf y = k + 1) ∨ (l.idxOf x = k + 1 ∧ l.idxOf y = k))) : bef (swp l k) x y = bef l x y := by
  unfold bef
  rw [idx_swp nd h hx, idx_swp nd h hy]
  have := idx_ne hx hy hxy
  refine decide_eq_decide.mpr ?_
  unfold tr
  split <;> split <;> (try split) <;> (try split) <;> omega
theorem bef_swp_at {l : List Nat} {k x y : Nat} (nd : l.Nodup) (h : k + 1 < l.length) (hx : x ∈ l) (hy : y ∈ l) (h1 : l.idxOf x = k) (h2 : l.idxOf y = k + 1) : bef (swp l k) x y = false ∧ bef (swp l k) y x = true ∧ bef l x y = true ∧ bef l y x = false := by
  unfold bef
  rw [idx_swp nd h hx, idx_swp nd h hy, h1, h2]
  unfold tr
  simp
theorem filter_one {α : Type} {f g : α → Bool} {r : α} : ∀ {l : List α}, l.Nodup → r ∈ l → f r = true → g r = false → (∀ p ∈ l, p ≠ r → g p = f p) → (l.filter g).length + 1 = (l.filter f).length
  | a :: t, nd, hr, hf, hg, e => by
    obtain ⟨n1, n2⟩ := List.nodup_cons.mp nd
    rcases List.mem_cons.mp hr with h | h
    · subst h
      rw [List.filter_cons_of_pos hf, List.filter_cons_of_neg (by rw [hg]; decide), List.length_cons]
      have : t.filter g = t.filter f := List.filter_congr fun p hp => e p (List.mem_cons_of_mem _ hp) fun z => n1 (z ▸ hp)
      rw [this]
    · have hne : a ≠ r := fun z => n1 (z ▸ h)
      have ih := filter_one n2 h hf hg fun p hp => e p (List.mem_cons_of_mem _ hp)
      have ea := e a List.mem_cons_self hne
      cases hfa : f a with
      | true =>
        rw [List.filter_cons_of_pos hfa, List.filter_cons_of_pos (by rw [ea, hfa]), List.length_cons, List.length_cons]
        omega
      | false =>
        have hga : g a = false := by rw [ea, hfa]
        have x1 : (a :: t).filter f = t.filter f := List.filter_cons_of_neg (by rw [hfa]; decide)
        have x2 : (a :: t).filter g = t.filter g := List.filter_cons_of_neg (by rw [hga]; decide)
        rw [x1, x2]
        exact ih
theorem touchS_comm (g h : Rung) : touchS g h = touchS h g := Bool.or_comm _ _
theorem touchAt_comm (gs : List Rung) (i j : Nat) : touchAt gs i j = touchAt gs j i := by
  unfold touchAt
  cases gs[i]? <;> cases gs[j]? <;> first | rfl | exact touchS_comm _ _
/-- no touching pair stands unlike -/
def Agree (gs : List Rung) (n : Nat) (ns ms : List Nat) : Prop := ∀ p ∈ flat n n, tch gs p = true → bef ns p.1 p.2 = bef ms p.1 p.2
theorem orient_eq {ns ms : List Nat} {p : Nat × Nat} (h : bef ns p.1 p.2 = bef ms p.1 p.2) : orient ns p = orient ms p := by
  unfold bef at h
  have h := decide_eq_decide.mp h
  unfold orient
  by_cases h1 : ns.idxOf p.1 < ns.idxOf p.2
  · rw [if_pos h1, if_pos (h.mp h1)]
  · rw [if_neg h1, if_neg fun z => h1 (h.mpr z)]
theorem dirs_agree {gs : List Rung} {ns ms : List Nat} : dirs gs ns = dirs gs ms ↔ Agree gs gs.length ns ms := by
  constructor
  · intro e p hp ht
    have hm := mem_flat.mp hp
    have h1 : orient ns p ∈ dirs gs ns := (sortP_perm _).mem_iff.mpr (List.mem_map.mpr ⟨p, mem_touchL.mpr ⟨hm.1, hm.2, ht⟩, rfl⟩)
    rw [e] at h1
    obtain ⟨r, hr, er⟩ := List.mem_map.mp ((sortP_perm _).mem_iff.mp h1)
    have hr1 := (mem_touchL.mp hr).1
    unfold bef
    refine decide_eq_decide.mpr ?_
    unfold orient at er
    obtain ⟨a, b⟩ := p
    obtain ⟨c, d⟩ := r
    have hab : a < b := hm.1
    have hcd : c < d := hr1
    show ns.idxOf a < ns.idxOf b ↔ ms.idxOf a < ms.idxOf b
    by_cases h1 : ns.idxOf a < ns.idxOf b
    · rw [show (if List.idxOf (a, b).fst ns < List.idxOf (a, b).snd ns then (a, b) else ((a, b).snd, (a, b).fst)) = (a, b) from if_pos h1] at er
      by_cases h2 : ms.idxOf c < ms.idxOf d
      · rw [show (if List.idxOf (c, d).fst ms < List.idxOf (c, d).snd ms then (c, d) else ((c, d).snd, (c, d).fst)) = (c, d) from if_pos h2] at er
        have e1 := (Prod.mk.inj er).1
        have e2 := (Prod.mk.inj er).2
        subst e1
        subst e2
        exact ⟨fun _ => h2, fun _ => h1⟩
      · rw [show (if List.idxOf (c, d).fst ms < List.idxOf (c, d).snd ms then (c, d) else ((c, d).snd, (c, d).fst)) = (d, c) from if_neg h2] at er
        have e1 := (Prod.mk.inj er).1
        have e2 := (Prod.mk.inj er).2
        omega
    · rw [show (if List.idxOf (a, b).fst ns < List.idxOf (a, b).snd ns then (a, b) else ((a, b).snd, (a, b).fst)) = (b, a) from if_neg h1] at er
      by_cases h2 : ms.idxOf c < ms.idxOf d
      · rw [show (if List.idxOf (c, d).fst ms < List.idxOf (c, d).snd ms then (c, d) else ((c, d).snd, (c, d).fst)) = (c, d) from if_pos h2] at er
        have e1 := (Prod.mk.inj er).1
        have e2 := (Prod.mk.inj er).2
        omega
      · rw [show (if List.idxOf (c, d).fst ms < List.idxOf (c, d).snd ms then (c, d) else ((c, d).snd, (c, d).fst)) = (d, c) from if_neg h2] at er
        have e1 := (Prod.mk.inj er).1
        have e2 := (Prod.mk.inj er).2
        subst e1
        subst e2
        exact ⟨fun z => absurd z h1, fun z => absurd z h2⟩
  · intro h
    unfold dirs
    refine congrArg sortP (List.map_congr_left fun p hp => ?_)
    have hm := mem_touchL.mp hp
    exact orient_eq (h p (mem_flat.mpr ⟨hm.1, hm.2.1⟩) hm.2.2)
theorem led_agree {gs : List Rung} {ns ms : List Nat} (hp : ns.Perm (List.range gs.length)) (h : Led gs ns ms) : Agree gs gs.length ns ms := by
  induction h with
  | refl => exact fun _ _ _ => rfl
  | @step ms k u v hl h1 h2 ht ih =>
    intro p hpm hpt
    have pm := hl.perm.trans hp
    have nd : ms.Nodup := pm.nodup_iff.mpr List.nodup_range
    have hm := mem_flat.mp hpm
    have hx : p.1 ∈ ms := pm.mem_iff.mpr (List.mem_range.mpr (by omega))
    have hy : p.2 ∈ ms := pm.mem_iff.mpr (List.mem_range.mpr hm.2)
    rw [ih p hpm hpt]
    refine (bef_swp nd (List.getElem?_eq_some_iff.mp h2).1 hx hy (by omega) fun z => ?_).symm
    have g1 := idx_get hx
    have g2 := idx_get hy
    unfold tch at hpt
    rcases z with ⟨z1, z2⟩ | ⟨z1, z2⟩
    · rw [z1, h1] at g1
      rw [z2, h2] at g2
      have e1 := Option.some.inj g1
      have e2 := Option.some.inj g2
      rw [← e1, ← e2, ht] at hpt
      cases hpt
    · rw [z1, h2] at g1
      rw [z2, h1] at g2
      have e1 := Option.some.inj g1
      have e2 := Option.some.inj g2
      rw [← e1, ← e2, touchAt_comm, ht] at hpt
      cases hpt
def app (l : List Nat) (ks : List Nat) : List Nat := ks.foldl swp l
theorem app_snoc (l ks : List Nat) (k : Nat) : app l (ks ++ [k]) = swp (app l ks) k := by
  unfold app
  rw [List.foldl_append]
  rfl
/-- each swap of the row is of neighbours that do not touch -/
def Legal (gs : List Rung) (l ks : List Nat) : Prop := ∀ (i k : Nat), ks[i]? = some k → k + 1 < (app l (ks.take i)).length ∧ touchAt gs ((app l (ks.take i)).getD k 0) ((app l (ks.take i)).getD (k + 1) 0) = false
theorem legal_snoc {gs : List Rung} {l ks : List Nat} {k : Nat} (h : Legal gs l ks) (h1 : k + 1 < (app l ks).length) (h2 : touchAt gs ((app l ks).getD k 0) ((app l ks).getD (k + 1) 0) = false) : Legal gs l (ks ++ [k]) := by
  intro i j hj
  rcases Nat.lt_or_ge i ks.length with hi | hi
  · rw [List.getElem?_append_left hi] at hj
    rw [List.take_append_of_le_length (Nat.le_of_lt hi)]
    exact h i j hj
  · have hj2 := (List.getElem?_eq_some_iff.mp hj).1
    rw [List.length_append, List.length_singleton] at hj2
    have ei : i = ks.length := by omega
    subst ei
    rw [List.getElem?_append_right (Nat.le_refl _), Nat.sub_self] at hj
    have e := Option.some.inj hj
    subst e
    rw [List.take_append_of_le_length (Nat.le_refl _), List.take_of_length_le (Nat.le_refl _)]
    exact ⟨h1, h2⟩
/-- what holds of the two lists while they are sorted -/
structure Bub (gs : List Rung) (ns ms : List Nat) (st : List Nat × List Nat) : Prop where
  perm : (app ns st.2).Perm (List.range gs.length)
  eq : st.1 = (app ns st.2).map fun n => ms.idxOf n
  cnt : st.2.length + (unl gs.length (app ns st.2) ms).length = (unl gs.length ns ms).length
  sub : ∀ p ∈ flat gs.length gs.length, unlb (app ns st.2) ms p = true → unlb ns ms p = true
  leg : Legal gs ns st.2
theorem bub_step {gs : List Rung} {ns ms : List Nat} {st : List Nat × List Nat} {i : Nat} (pm : ms.Perm (List.range gs.length)) (ag : Agree gs gs.length ns ms) (h : Bub gs ns ms st) (hi : i + 1 < gs.length) : Bub gs ns ms (stepB st i) := by
  unfold stepB
  by_cases hlt : st.1.getD (i + 1) 0 < st.1.getD i 0
  case neg =>
    rw [if_neg hlt]
    exact h
  rw [if_pos hlt]
  have hp := h.perm
  have hal : (app ns st.2).length = gs.length := by rw [hp.length_eq, List.length_range]
  have nd : (app ns st.2).Nodup := hp.nodup_iff.mpr List.nodup_range
  have hi' : i + 1 < (app ns st.2).length := by omega
  have mdn : ms.Nodup := pm.nodup_iff.mpr List.nodup_range
  obtain ⟨u, hu⟩ : ∃ u, (app ns st.2)[i]? = some u := ⟨_, List.getElem?_eq_getElem (by omega)⟩
  obtain ⟨v, hv⟩ : ∃ v, (app ns st.2)[i + 1]? = some v := ⟨_, List.getElem?_eq_getElem hi'⟩
  have iu := idx_of_get nd hu
  have iv := idx_of_get nd hv
  have mu : u ∈ app ns st.2 := List.mem_of_getElem? hu
  have mv : v ∈ app ns st.2 := List.mem_of_getElem? hv
  have ru : u < gs.length := List.mem_range.mp (hp.mem_iff.mp mu)
  have rv : v < gs.length := List.mem_range.mp (hp.mem_iff.mp mv)
  have huv : u ≠ v := fun e => by
    rw [e, iv] at iu
    omega
  have hmm : ms.idxOf v < ms.idxOf u := by
    rw [h.eq] at hlt
    rw [List.getD_eq_getElem?_getD, List.getD_eq_getElem?_getD, List.getElem?_map, List.getElem?_map, hu, hv] at hlt
    exact hlt
  obtain ⟨b1, b2, b3, b4⟩ := bef_swp_at nd hi' mu mv iu iv
  have c1 : bef ms u v = false := decide_eq_false (by omega)
  have c2 : bef ms v u = true := decide_eq_true hmm
  -- the pair that is exchanged
  obtain ⟨r, hr, hrb, hra, hrt⟩ : ∃ r, r ∈ flat gs.length gs.length ∧ unlb (app ns st.2) ms r = true ∧ unlb (swp (app ns st.2) i) ms r = false ∧ (r = (u, v) ∨ r = (v, u)) := by
    rcases Nat.lt_or_ge u v with z | z
    · refine ⟨(u, v), mem_flat.mpr ⟨z, rv⟩, ?_, ?_, .inl rfl⟩
      · show (bef (app ns st.2) u v != bef ms u v) = true
        rw [b3, c1]
        rfl
      · show (bef (swp (app ns st.2) i) u v != bef ms u v) = false
        rw [b1, c1]
        rfl
    · refine ⟨(v, u), mem_flat.mpr ⟨by show v < u; omega, ru⟩, ?_, ?_, .inr rfl⟩
      · show (bef (app ns st.2) v u != bef ms v u) = true
        rw [b4, c2]
        rfl
      · show (bef (swp (app ns st.2) i) v u != bef ms v u) = false
        rw [b2, c2]
        rfl
  have oth : ∀ p ∈ flat gs.length gs.length, p ≠ r → unlb (swp (app ns st.2) i) ms p = unlb (app ns st.2) ms p := by
    intro p hpm hne
    have hm := mem_flat.mp hpm
    have hx : p.1 ∈ app ns st.2 := hp.mem_iff.mpr (List.mem_range.mpr (by omega))
    have hy : p.2 ∈ app ns st.2 := hp.mem_iff.mpr (List.mem_range.mpr hm.2)
    unfold unlb
    rw [bef_swp nd hi' hx hy (by omega) fun z => ?_]
    have g1 := idx_get hx
    have g2 := idx_get hy
    have hrm := mem_flat.mp hr
    rcases z with ⟨z1, z2⟩ | ⟨z1, z2⟩
    · rw [z1, hu] at g1
      rw [z2, hv] at g2
      have e1 := Option.some.inj g1
      have e2 := Option.some.inj g2
      rcases hrt with e | e
      · exact hne (by rw [e, e1, e2])
      · rw [e] at hrm
        have h3 : v < u := hrm.1
        omega
    · rw [z1, hv] at g1
      rw [z2, hu] at g2
      have e1 := Option.some.inj g1
      have e2 := Option.some.inj g2
      rcases hrt with e | e
      · rw [e] at hrm
        have h3 : u < v := hrm.1
        omega
      · exact hne (by rw [e, e1, e2])
  have ea : app ns (st.2 ++ [i]) = swp (app ns st.2) i := app_snoc _ _ _
  refine ⟨?_, ?_, ?_, fun p hpm hpu => ?_, ?_⟩
  · show (app ns (st.2 ++ [i])).Perm _
    rw [ea]
    exact (swp_perm hi').trans hp
  · show swp st.1 i = (app ns (st.2 ++ [i])).map _
    rw [ea, h.eq, swp_map _ hi']
  · show (st.2 ++ [i]).length + (unl gs.length (app ns (st.2 ++ [i])) ms).length = _
    rw [ea, List.length_append, List.length_singleton, ← h.cnt]
    have := filter_one (f := unlb (app ns st.2) ms) (g := unlb (swp (app ns st.2) i) ms) (flat_nodup gs.length) hr hrb hra oth
    unfold unl
    omega
  · have hpu : unlb (app ns (st.2 ++ [i])) ms p = true := hpu
    rw [ea] at hpu
    by_cases hpr : p = r
    · subst hpr
      rw [hra] at hpu
      cases hpu
    · rw [oth p hpm hpr] at hpu
      exact h.sub p hpm hpu
  · refine legal_snoc h.leg hi' ?_
    rw [List.getD_eq_getElem?_getD, List.getD_eq_getElem?_getD, hu, hv]
    show touchAt gs u v = false
    cases ht : touchAt gs u v with
    | false => rfl
    | true =>
      have h1 := h.sub r hr hrb
      have h2 := ag r hr (by
        unfold tch
        rcases hrt with e | e
        · rw [e]
          exact ht
        · rw [e]
          show touchAt gs v u = true
          rw [touchAt_comm]
          exact ht)
      unfold unlb at h1
      rw [h2] at h1
      simp at h1
theorem bub_in {gs : List Rung} {ns ms : List Nat} {st : List Nat × List Nat} (pm : ms.Perm (List.range gs.length)) (ag : Agree gs gs.length ns ms) (h : Bub gs ns ms st) : ∀ j, j + 1 ≤ gs.length → Bub gs ns ms (inB st j)
  | 0, _ => h
  | j + 1, hj => by
    rw [inB_succ]
    exact bub_step pm ag (bub_in pm ag h j (by omega)) (by omega)
theorem bub_out {gs : List Rung} {ns ms : List Nat} {st : List Nat × List Nat} (pm : ms.Perm (List.range gs.length)) (ag : Agree gs gs.length ns ms) (h : Bub gs ns ms st) (h1 : 1 ≤ gs.length) : ∀ i, Bub gs ns ms (outB st gs.length i)
  | 0 => h
  | i + 1 => by
    rw [outB_succ]
    exact bub_in pm ag (bub_out pm ag h h1 i) _ (by omega)
/-! the lists are sorted -/
theorem in_max {st : List Nat × List Nat} {n i : Nat} (hl : st.1.length = n) (hP : ∀ p q, p < q → q < n → n ≤ q + i → st.1.getD p 0 ≤ st.1.getD q 0) : ∀ j, j + i + 1 ≤ n →
    (∀ p q, p < q → q < n → n ≤ q + i → (inB st j).1.getD p 0 ≤ (inB st j).1.getD q 0) ∧ ∀ p, p < j → (inB st j).1.getD p 0 ≤ (inB st j).1.getD j 0
  | 0, _ => ⟨hP, fun p h => absurd h (Nat.not_lt_zero _)⟩
  | j + 1, hj => by
    obtain ⟨h1, h2⟩ := in_max hl hP j (by omega)
    have hlen := (inB_len st j).1
    rw [inB_succ]
    unfold stepB
    generalize inB st j = s at h1 h2 hlen ⊢
    have hj2 : j + 1 < s.1.length := by omega
    by_cases hlt : s.1.getD (j + 1) 0 < s.1.getD j 0
    · rw [if_pos hlt]
      refine ⟨fun p q hpq hq hqi => ?_, fun p hp => ?_⟩
      · show (swp s.1 j).getD p 0 ≤ (swp s.1 j).getD q 0
        rw [swp_getD hj2, swp_getD hj2, if_neg (show ¬ q = j by omega), if_neg (show ¬ q = j + 1 by omega)]
        have a1 := h1 (j + 1) q (by omega) hq hqi
        have a2 := h1 j q (by omega) hq hqi
        have a3 := h1 p q hpq hq hqi
        split
        · exact a1
        · split
          · exact a2
          · exact a3
      · show (swp s.1 j).getD p 0 ≤ (swp s.1 j).getD (j + 1) 0
        rw [swp_getD hj2, swp_getD hj2, if_neg (show ¬ j + 1 = j by omega), if_pos rfl]
        by_cases hpj : p = j
        · rw [if_pos hpj]
          omega
        · rw [if_neg hpj, if_neg (show ¬ p = j + 1 by omega)]
          exact h2 p (by omega)
    · rw [if_neg hlt]
      refine ⟨h1, fun p hp => ?_⟩
      by_cases hpj : p = j
      · subst hpj
        omega
      · have := h2 p (by omega)
        omega
theorem out_sorted {st : List Nat × List Nat} {n : Nat} (hl : st.1.length = n) (h8 : n ≤ 8) : ∀ i, i + 1 ≤ n → ∀ p q, p < q → q < n → n ≤ q + i → (outB st n i).1.getD p 0 ≤ (outB st n i).1.getD q 0
  | 0, _ => fun p q _ h1 h2 => absurd h1 (by omega)
  | i + 1, hi => by
    have ih := out_sorted hl h8 i (by omega)
    have hlen : (outB st n i).1.length = n := by rw [(outB_len st n h8 i).1, hl]
    obtain ⟨h1, h2⟩ := in_max hlen ih (n - 1 - i) (by omega)
    rw [outB_succ]
    intro p q hpq hq hqi
    by_cases hc : n ≤ q + i
    · exact h1 p q hpq hq hc
    · have e : q = n - 1 - i := by omega
      subst e
      exact h2 p hpq
theorem told_right {gs : List Rung} {ns ms : List Nat} (h8 : gs.length ≤ 8) (pn : ns.Perm (List.range gs.length)) (pm : ms.Perm (List.range gs.length)) (ag : Agree gs gs.length ns ms) :
    (told ns ms).length = (unl gs.length ns ms).length ∧ app ns (told ns ms) = ms ∧ Legal gs ns (told ns ms) := by
  have hnl : ns.length = gs.length := by rw [pn.length_eq, List.length_range]
  have hml : ms.length = gs.length := by rw [pm.length_eq, List.length_range]
  have mdn : ms.Nodup := pm.nodup_iff.mpr List.nodup_range
  rcases Nat.eq_zero_or_pos gs.length with h0 | h1
  · have e1 : ns = [] := List.length_eq_zero_iff.mp (by omega)
    have e2 : ms = [] := List.length_eq_zero_iff.mp (by omega)
    subst e1
    subst e2
    rw [h0]
    exact ⟨rfl, rfl, fun i k h => by simp [told, outB] at h⟩
  have b0 : Bub gs ns ms (ns.map fun n => ms.idxOf n, []) := ⟨pn, rfl, by show 0 + _ = _; rw [Nat.zero_add]; rfl, fun _ _ h => h, fun i k h => by simp at h⟩
  have bu := bub_out pm ag b0 h1 (gs.length - 1)
  have so := out_sorted (st := (ns.map fun n => ms.idxOf n, [])) (n := gs.length) (by rw [List.length_map, hnl]) h8 (gs.length - 1) (by omega)
  have et : told ns ms = (outB (ns.map fun n => ms.idxOf n, []) gs.length (gs.length - 1)).2 := by
    unfold told
    rw [hnl]
  rw [et]
  generalize outB (ns.map fun n => ms.idxOf n, []) gs.length (gs.length - 1) = s at bu so ⊢
  have hal : (app ns s.2).length = gs.length := by rw [bu.perm.length_eq, List.length_range]
  have hsl : s.1.length = gs.length := by rw [bu.eq, List.length_map, hal]
  have er : ms.map (fun n => ms.idxOf n) = List.range gs.length := by
    refine List.ext_getElem (by rw [List.length_map, hml, List.length_range]) fun i a1 a2 => ?_
    rw [List.getElem_map, List.getElem_range]
    rw [List.length_map] at a1
    exact idx_of_get mdn (List.getElem?_eq_getElem a1)
  have es : s.1 = List.range gs.length := by
    refine List.Perm.eq_of_pairwise (le := fun a b => a ≤ b) (fun a b _ _ x y => Nat.le_antisymm x y) ?_ (range_pairwise _) ?_
    · refine List.pairwise_iff_getElem.mpr fun i j hi hj hij => ?_
      have := so i j hij (by omega) (by omega)
      rw [List.getD_eq_getElem?_getD, List.getD_eq_getElem?_getD, List.getElem?_eq_getElem hi, List.getElem?_eq_getElem hj] at this
      exact this
    · rw [bu.eq, ← er]
      exact (bu.perm.trans pm.symm).map _
  have ea : app ns s.2 = ms := by
    refine List.ext_getElem (by omega) fun i a1 a2 => ?_
    have h1 : s.1[i]? = some i := by
      rw [es, List.getElem?_range (by omega)]
    rw [bu.eq, List.getElem?_map, List.getElem?_eq_getElem a1] at h1
    have h2 : ms.idxOf (app ns s.2)[i] = i := Option.some.inj h1
    have h3 := idx_get (ns := ms) (n := (app ns s.2)[i]) (pm.mem_iff.mpr (bu.perm.mem_iff.mp (List.getElem_mem a1)))
    rw [h2, List.getElem?_eq_getElem a2] at h3
    exact (Option.some.inj h3).symm
  refine ⟨?_, ea, bu.leg⟩
  have hc := bu.cnt
  have h0 : (unl gs.length (app ns s.2) ms).length = 0 := by
    rw [ea]
    unfold unl
    rw [List.filter_eq_nil_iff.mpr fun p _ => by unfold unlb; simp]
    rfl
  omega
theorem flat_full : ∀ n, n < 9 → (flat n n).length = n * (n - 1) / 2 := by decide
theorem idx_rev {l : List Nat} {x : Nat} (nd : l.Nodup) (hx : x ∈ l) : l.reverse.idxOf x = l.length - 1 - l.idxOf x := by
  have h1 := List.idxOf_lt_length_of_mem hx
  refine idx_of_get (List.pairwise_reverse.mpr (nd.imp fun h => Ne.symm h)) ?_
  rw [List.getElem?_reverse (by omega), show l.length - 1 - (l.length - 1 - l.idxOf x) = l.idxOf x by omega]
  exact idx_get hx
theorem unl_rev {n : Nat} {ns : List Nat} (h8 : n ≤ 8) (pn : ns.Perm (List.range n)) : (unl n ns ns.reverse).length = n * (n - 1) / 2 := by
  have nd : ns.Nodup := pn.nodup_iff.mpr List.nodup_range
  unfold unl
  rw [List.filter_eq_self.mpr fun p hp => ?_]
  · exact flat_full n (by omega)
  · have hm := mem_flat.mp hp
    have hx : p.1 ∈ ns := pn.mem_iff.mpr (List.mem_range.mpr (by omega))
    have hy : p.2 ∈ ns := pn.mem_iff.mpr (List.mem_range.mpr hm.2)
    have hne := idx_ne hx hy (by omega)
    have l1 := List.idxOf_lt_length_of_mem hx
    have l2 := List.idxOf_lt_length_of_mem hy
    unfold unlb bef
    rw [idx_rev nd hx, idx_rev nd hy]
    by_cases h : ns.idxOf p.1 < ns.idxOf p.2
    · rw [decide_eq_true h, decide_eq_false (by omega)]
      rfl
    · rw [decide_eq_false h, decide_eq_true (by omega)]
      rfl
end K7

set_option maxRecDepth 100000
set_option maxHeartbeats 4000000
namespace K7
open PySem PySem.Spec PyProof.Rows L2 GX NdefX
/-! ### _law_swaps_right -/
structure GoodF (gs : List Rung) : Prop where
  ok : FrOk gs
  names : ∀ g ∈ gs, GoodNames g
theorem frm_of {H : Hp} {f : Addr} {gs : List Rung} (h : FrmT H f gs) (g : GoodF gs) : Frm H f gs := by
  obtain ⟨rs, h1, h2⟩ := h
  exact ⟨rs, .inr h1, h2, g.names⟩
def spRight : Sp := fun vs H Q _ => ∃ (f o p : Addr) (gs : List Rung) (ns ms : List Nat), vs = [.ref f, .ref o, .ref p] ∧ FrmT H f gs ∧ GoodF gs ∧ H o = some (.lst (nts ns)) ∧ H p = some (.lst (nts ms)) ∧ ns.Perm (List.range gs.length) ∧ ms.Perm (List.range gs.length) ∧ ∀ H', Same H H' → Q (.bl true) H'
theorem nts_int (l : List Nat) : nts l = (l.map fun (n : Nat) => (n : Int)).map V.int := by
  unfold nts
  rw [List.map_map]
  rfl
theorem dpNts {K : PySem.W.Frag} {H : Hp} (l : List Nat) : DpAll K H (nts l) ((l.map fun (n : Nat) => (n : Int)).map PyData.int) := by
  rw [nts_int]
  exact dpInts _
theorem shInts (ks : List Int) : SeqAt.shaped (.list (ks.map PyData.int)) = true := by
  unfold SeqAt.shaped
  rw [show PyData.canLay0 (.list (ks.map PyData.int)) = PyData.canLayAll0 (ks.map PyData.int) from rfl, canInts, Bool.true_and, decide_eq_true_eq]
  show PyData.depthAll (ks.map PyData.int) + 1 ≤ 64
  rw [depInts]
  decide
section
variable {P : Program} {w : World} {K : PySem.W.Frag} {mg : Str → Option Value} {base : Heap}
theorem ok_right (G : Pg P K mg) {f fI fU fT : Addr} {fd fdI fdU fdT : FuncData} (F : Fun K "_law_swaps_right" "_law_swaps_right" sLRight f fd)
    (FI : Fun K "_law_int" "_law_int" sLInt fI fdI) (bI : Binds K fdI ["value"] []) (gI : mg "_law_int" = some (.ref fI))
    (FU : Fun K "_law_unlike" "_law_unlike" sLUnlike fU fdU) (bU : Binds K fdU ["order", "other"] []) (gU : mg "_law_unlike" = some (.ref fU))
    (FT : Fun K "_law_touch" "_law_touch" sLTouch fT fdT) (bT : Binds K fdT ["frame", "low", "high"] []) (gT : mg "_law_touch" = some (.ref fT)) :
    FnOk P w K mg base (CX P w) 6 f fd ["frame", "order", "other"] spRight := by
  have GS : FnOk P w K mg base (CX P w) 5 G.f8 G.d8 ["frame", "order", "other"] (spSwaps G.X.CB G.X.CN G.X.CM) := ok_swaps G
  have GI : FnOk P w K mg base CX0 1 fI fdI ["value"] spInt := ok_lint FI G.B
  have GU : FnOk P w K mg base CX0 1 fU fdU ["order", "other"] spUnlike := ok_unlike FU G.B
  have GT : FnOk P w K mg base CX0 1 fT fdT ["frame", "low", "high"] spLTouch := ok_ltouch FT
  refine F.okX scRight (fun vs H Q E h => ?_) (fun cdv A outer s H vs Q E hr h => ?_)
  · obtain ⟨f, o, p, gs, ns, ms, rfl, _⟩ := h
    rfl
  · obtain ⟨f, o, p, gs, ns, ms, rfl, hf, gf, ho, hp, pn, pm, q⟩ := h
    have hr1 := hr.mono (show 1 ≤ 5 by decide)
    refine ⟨_, pss_cons (ps_set (i := 3) scRight.nd rfl (.inl rfl) (pe_call GS hr (by rfl) G.g8 G.O8.kp G.b8 .nil (passes_call (takes_of rfl rfl rfl rfl) (fun _ _ _ _ h => h)) (pa_cons (pv 0) (pa_cons (pv 1) (pa_cons (pe_callTy call_tuple_of (by rfl) G.B.tuple (by decide +kernel) (pa_cons (pv 2) pa_nil)) pa_nil)))))
      (pss_cons (ps_set (i := 4) scRight.nd rfl (.inl rfl) (pe_call GU hr1 (by rfl) gU FU.kp bU .nil pass0 (pa_cons (pv 1) (pa_cons (pv 2) pa_nil))))
      (pss_cons (ps_setLc (i := 5) (own := [("pair", 8)]) (g := gName 8) rfl scRight.nd rfl rfl (sw_true rfl rfl rfl (by decide +kernel)) (pi_list (pv 4)) (blkOk_by (own := [("pair", 8)]) (N := ["frame", "order", "other", "told", "unlike", "parted", "at", "k", "pair"]) (sc := defScope sLRight) (by decide +kernel)) (fun _ _ _ _ _ => pg_name (i := 8) scRight.nd rfl (Or.inl rfl))
          (tt := tB (tCall spLTouch [] E0 (tCons (tVar 0) (tCons (tOp (rIxT K) (tVar 8) (tC (.int 0))) (tCons (tOp (rIxT K) (tVar 8) (tC (.int 1))) tNil)))))
          (fun _ _ _ _ _ => pts_one (pt_val (pe_call GT hr1 (by rfl) gT FT.kp bT .nil pass0 (pa_cons (pv 0) (pa_cons (pe_ix (r := rIxT K) ix_tup (pv 8) pe_int (fun _ _ => rfl)) (pa_cons (pe_ix (r := rIxT K) ix_tup (pv 8) pe_int (fun _ _ => rfl)) pa_nil)))))) (fun _ _ _ _ _ => pv 8))
      (pss_cons (ps_if (pt_cmpR op_gt (pe_callB call_len (by rfl) G.B.len PySem.boot_len (pa_cons (pv 5) pa_nil)) pe_int (nomark _)) (pss_one (ps_ret (pe_cmpR op_isN (pv 3) pe_non (nomark _)))) pss_nil)
      (pss_cons (ps_if (PW.pt (pw_or (pt_not (pt_val (pe_callB call_isi (by rfl) G.B.isi (by decide +kernel) (pa_cons (pv 3) (pa_cons (pe_bltn (v := .ty "tuple") (u := .type "tuple") (by rfl) G.B.tuple (by decide +kernel) rfl) pa_nil)))))
        (pw_or1 (pt_cmpR op_ne (pe_callB call_len (by rfl) G.B.len PySem.boot_len (pa_cons (pv 3) pa_nil)) (pe_callB call_len (by rfl) G.B.len PySem.boot_len (pa_cons (pv 4) pa_nil)) (nomark _))))) (pss_one (ps_ret pe_bl)) pss_nil)
      (pss_cons (ps_set (i := 6) scRight.nd rfl (.inl rfl) (pe_callTy call_list_of (by rfl) G.B.list (by decide +kernel) (pa_cons (pv 1) pa_nil)))
      (pss_cons (ps_for (by passes_own) rfl (pi_tup (pv 3)) (pg_name (i := 7) scRight.nd rfl (.inl rfl))
        (pss_cons (ps_if (PW.pt (pw_or (pt_not (pt_val (pe_call GI hr1 (by rfl) gI FI.kp bI .nil pass0 (pa_cons (pv 7) pa_nil))))
          (pw_or (pt_cmpR op_lt (pv 7) pe_int (nomark _))
          (pw_or (pt_cmpR op_ge (pe_op op_add (pv 7) pe_int) (pe_callB call_len (by rfl) G.B.len PySem.boot_len (pa_cons (pv 6) pa_nil)) (nomark _))
          (pw_or1 (pt_val (pe_call GT hr1 (by rfl) gT FT.kp bT .nil pass0 (pa_cons (pv 0) (pa_cons (pe_ix (r := rIxL K) ix_list (pv 6) (pv 7) (fun _ _ => rfl)) (pa_cons (pe_ix (r := rIxL K) ix_list (pv 6) (pe_op op_add (pv 7) pe_int) (fun _ _ => rfl)) pa_nil))))))))))
          (pss_one (ps_ret pe_bl)) pss_nil)
        (pss_one (ps_asg (pe_tup (pa_cons (pe_ix (r := rIxL K) ix_list (pv 6) (pe_op op_add (pv 7) pe_int) (fun _ _ => rfl)) (pa_cons (pe_ix (r := rIxL K) ix_list (pv 6) (pv 7) (fun _ _ => rfl)) pa_nil))) (pg_tup rfl (pgs_cons (pg_sub (pv 6) (pv 7) set_list) (pgs_cons (pg_sub (pv 6) (pe_op op_add (pv 7) pe_int) set_list) pgs_nil)))))))
      (pss_one (ps_ret (pe_cmpR (op_eqD hr.units) (pv 6) (pe_callTy call_list_of (by rfl) G.B.list (by decide +kernel) (pa_cons (pv 2) pa_nil)) (nomark _)))))))))), ?_⟩
    have h8 := gf.ok.1
    refine ⟨.ref f, rfl, .ref o, rfl, .ref p, rfl, p, nts ms, rfl, .inl ⟨sqL hp, fun T nT => ?_⟩⟩
    have sT : Same H (upd H T (.tup (nts ms))) := same_upd nT
    have f1 := hf.same sT
    refine ⟨f, gs, .ref o, .ref T, rfl, frm_of f1 gf, by omega, .inr ⟨gf.ok, .inr (.inr ⟨ns, ms, ⟨o, rfl, .inl (sT _ _ ho), pn⟩, ⟨T, rfl, .inr upd_same, pm⟩, ?_⟩)⟩⟩
    by_cases hd : dirs gs ns = dirs gs ms
    case neg =>
      refine .inl ⟨hd, fun H2 s2 => ?_⟩
      have f2 := f1.same s2
      refine ⟨.ref o, rfl, .ref p, rfl, o, p, gs.length, ns, ms, rfl, h8, s2 _ _ (sT _ _ ho), s2 _ _ (sT _ _ hp), pn, pm, fun U H3 ts s3 nU eU pt => ?_⟩
      have f3 := f2.same s3
      have hts : ts.length = (unl gs.length ns ms).length := pt.length
      have hun : (unl gs.length ns ms).length ≤ 64 := by
        unfold unl
        refine Nat.le_trans (List.length_filter_le _ _) (Nat.le_trans (flat_len _ _) (Nat.mul_le_mul h8 h8))
      refine ⟨.ref U, rfl, U, rfl, ⟨_, sqL eU⟩, fun D nD => ?_⟩
      refine lcGen (n := ts.length) (fun i => tch gs ((unl gs.length ns ms).getD i (0, 0))) (fun i => ts.getD i .non) nD (by omega) (fun i H4 h s4 => ⟨ts, ts[i], sqL (s4 _ _ eU), List.getElem?_eq_getElem h⟩) (fun H4 s4 => ⟨ts, sqL (s4 _ _ eU), Nat.le_refl _⟩) (fun i x H4 H' Qk Qn hi s4 y hT hF => ?_) (fun H4 s4 e4 => ?_)
      · obtain ⟨rfl, hx⟩ := y
        have hx := hx ts (sqL (s4 _ _ eU))
        obtain ⟨⟨a, b⟩, hp1, T', rfl, hT'⟩ := paired_get pt hx
        have hm := mem_flat.mp (List.mem_filter.mp (List.mem_of_getElem? hp1)).1
        have hb2 : b < gs.length := hm.2
        have hab : a < b := hm.1
        obtain ⟨g, hg⟩ : ∃ g, gs[a]? = some g := ⟨_, List.getElem?_eq_getElem (by omega)⟩
        obtain ⟨h, hh⟩ : ∃ g, gs[b]? = some g := ⟨_, List.getElem?_eq_getElem hb2⟩
        have eT : tch gs ((unl gs.length ns ms).getD i (0, 0)) = touchS g h := by
          rw [List.getD_eq_getElem?_getD, hp1]
          show touchAt gs a b = _
          unfold touchAt
          rw [hg, hh]
        have ev : ts.getD i .non = .ref T' := by
          rw [List.getD_eq_getElem?_getD, hx]
          rfl
        have hT4 : H' T' = some (.tup [.int (a : Nat), .int (b : Nat)]) := s4 _ _ hT'
        refine ⟨rfl, .ref f, rfl, .ref T', rfl, T', _, 0, .int (a : Nat), rfl, rfl, sqT hT4, atI_nat (j := 0) rfl, .ref T', rfl, T', _, 1, .int (b : Nat), rfl, rfl, sqT hT4, atI_nat (j := 1) rfl, f, gs, a, b, a, b, g, h, rfl, rfl, rfl, f3.same s4, hg, hh, _, rfl, ?_⟩
        rw [eT, ev] at hT
        rw [eT] at hF
        cases hu : touchS g h with
        | true => exact iteT ⟨_, rfl, hT _ (Same.refl _) hu⟩
        | false => exact iteF (hF _ (Same.refl _) hu)
      refine ⟨.ref D, rfl, .ref D, _, rfl, .inl ⟨_, sqL e4, rfl⟩, _, 0, rfl, rfl, _, rfl, ?_⟩
      rw [List.length_map]

      have hex : ∃ r ∈ unl gs.length ns ms, tch gs r = true := by
        refine Classical.byContradiction fun hno => hd (dirs_agree.mpr fun r hr ht => ?_)
        refine Classical.byContradiction fun hb => hno ⟨r, List.mem_filter.mpr ⟨hr, ?_⟩, ht⟩
        unfold unlb
        exact bne_iff_ne.mpr hb
      obtain ⟨r, hr, ht⟩ := hex
      obtain ⟨i, hi, e⟩ := List.getElem_of_mem hr
      have hmem : i ∈ (List.range ts.length).filter fun i => tch gs ((unl gs.length ns ms).getD i (0, 0)) := by
        refine List.mem_filter.mpr ⟨List.mem_range.mpr (by omega), ?_⟩
        rw [List.getD_eq_getElem?_getD, List.getElem?_eq_getElem hi, e]
        exact ht
      have hpos := List.length_pos_of_mem hmem
      rw [decide_eq_true (by omega)]
      exact iteT ⟨.non, rfl, rfl, q H4 (((sT.trans s2).trans s3).trans s4)⟩
    have ag := dirs_agree.mp hd
    obtain ⟨t1, t2, t3⟩ := told_right h8 pn pm ag
    refine .inr ⟨hd, fun W H2 s2 nW eW => ?_⟩
    have f2 := f1.same s2
    refine ⟨.ref o, rfl, .ref p, rfl, o, p, gs.length, ns, ms, rfl, h8, s2 _ _ (sT _ _ ho), s2 _ _ (sT _ _ hp), pn, pm, fun U H3 ts s3 nU eU pt => ?_⟩
    have f3 := f2.same s3
    have hts : ts.length = (unl gs.length ns ms).length := pt.length
    have hun : (unl gs.length ns ms).length ≤ 64 := by
      unfold unl
      refine Nat.le_trans (List.length_filter_le _ _) (Nat.le_trans (flat_len _ _) (Nat.mul_le_mul h8 h8))
    refine ⟨.ref U, rfl, U, rfl, ⟨_, sqL eU⟩, fun D nD => ?_⟩
    refine lcGen (n := ts.length) (fun i => tch gs ((unl gs.length ns ms).getD i (0, 0))) (fun i => ts.getD i .non) nD (by omega) (fun i H4 h s4 => ⟨ts, ts[i], sqL (s4 _ _ eU), List.getElem?_eq_getElem h⟩) (fun H4 s4 => ⟨ts, sqL (s4 _ _ eU), Nat.le_refl _⟩) (fun i x H4 H' Qk Qn hi s4 y hT hF => ?_) (fun H4 s4 e4 => ?_)
    · obtain ⟨rfl, hx⟩ := y
      have hx := hx ts (sqL (s4 _ _ eU))
      obtain ⟨⟨a, b⟩, hp1, T', rfl, hT'⟩ := paired_get pt hx
      have hm := mem_flat.mp (List.mem_filter.mp (List.mem_of_getElem? hp1)).1
      have hb2 : b < gs.length := hm.2
      have hab : a < b := hm.1
      obtain ⟨g, hg⟩ : ∃ g, gs[a]? = some g := ⟨_, List.getElem?_eq_getElem (by omega)⟩
      obtain ⟨h, hh⟩ : ∃ g, gs[b]? = some g := ⟨_, List.getElem?_eq_getElem hb2⟩
      have eT : tch gs ((unl gs.length ns ms).getD i (0, 0)) = touchS g h := by
        rw [List.getD_eq_getElem?_getD, hp1]
        show touchAt gs a b = _
        unfold touchAt
        rw [hg, hh]
      have ev : ts.getD i .non = .ref T' := by
        rw [List.getD_eq_getElem?_getD, hx]
        rfl
      have hT4 : H' T' = some (.tup [.int (a : Nat), .int (b : Nat)]) := s4 _ _ hT'
      refine ⟨rfl, .ref f, rfl, .ref T', rfl, T', _, 0, .int (a : Nat), rfl, rfl, sqT hT4, atI_nat (j := 0) rfl, .ref T', rfl, T', _, 1, .int (b : Nat), rfl, rfl, sqT hT4, atI_nat (j := 1) rfl, f, gs, a, b, a, b, g, h, rfl, rfl, rfl, f3.same s4, hg, hh, _, rfl, ?_⟩
      rw [eT, ev] at hT
      rw [eT] at hF
      cases hu : touchS g h with
      | true => exact iteT ⟨_, rfl, hT _ (Same.refl _) hu⟩
      | false => exact iteF (hF _ (Same.refl _) hu)
    refine ⟨.ref D, rfl, .ref D, _, rfl, .inl ⟨_, sqL e4, rfl⟩, _, 0, rfl, rfl, _, rfl, ?_⟩
    rw [List.length_map]

    have hz : (List.range ts.length).filter (fun i => tch gs ((unl gs.length ns ms).getD i (0, 0))) = [] := by
      refine List.filter_eq_nil_iff.mpr fun i hi ht => ?_
      have hi := List.mem_range.mp hi
      rw [List.getD_eq_getElem?_getD, List.getElem?_eq_getElem (by omega)] at ht
      obtain ⟨m1, m2⟩ := List.mem_filter.mp (List.getElem_mem (l := unl gs.length ns ms) (n := i) (by omega))
      have := ag _ m1 ht
      unfold unlb at m2
      rw [this] at m2
      simp at m2
    rw [hz, decide_eq_false (by show ¬ (0 : Int) < ((0 : Nat) : Int); decide)]
    refine iteF ?_
    have eW4 := s4 _ _ (s3 _ _ eW)
    have eU4 := s4 _ _ eU
    refine ⟨_, rfl, _, _, .type "tuple", _, true, rfl, .ty "tuple", .base (.tup eW4), kit_ty (by decide +kernel), true, rfl, iteF ?_⟩
    refine ⟨.ref W, rfl, .ref W, _, rfl, .inr ⟨_, sqT eW4, rfl⟩, .ref U, rfl, .ref U, _, rfl, .inl ⟨_, sqL eU4, rfl⟩, rfl, _, rfl, ?_⟩
    rw [nts_len, t1, ← hts, decide_eq_true rfl]
    refine iteF ?_
    have s04 := ((sT.trans s2).trans s3).trans s4
    refine ⟨.ref o, rfl, o, _, rfl, .inl (sqL (s04 _ _ ho)), fun L nL => ?_⟩
    have nLH := none_of_same s04 nL
    refine ⟨.ref W, rfl, W, rfl, ⟨_, sqT (same_upd nL _ _ eW4)⟩, ?_⟩
    refine for_tup (K := K) (xs := nts (told ns ms)) (D := { nx := _, rt := Q }) (fun i σ H' => (∃ c7, σ = [some (.ref f), some (.ref o), some (.ref p), some (.ref W), some (.ref U), some (.ref D), some (.ref L), c7, none]) ∧ Same H H' ∧ H' W = some (.tup (nts (told ns ms))) ∧ FrmT H' f gs ∧ H' L = some (.lst (nts (app ns ((told ns ms).take i))))) ?_ ?_ ?_ ?_
    · exact ⟨⟨_, rfl⟩, s04.trans (same_upd nL), same_upd nL _ _ eW4, hf.same (s04.trans (same_upd nL)), upd_same⟩
    · rintro i σ H5 _ ⟨_, _, e5, _⟩
      exact sqT e5
    · rintro i x σ H5 hx ⟨⟨c7, rfl⟩, s5, eW5, f5, eL⟩
      obtain ⟨k, hk, rfl⟩ := nts_get hx
      obtain ⟨l1, l2⟩ := t3 i k hk
      rw [take_get hk, app_snoc]
      have pat : (app ns ((told ns ms).take i)).length = gs.length ∧ ∀ z ∈ app ns ((told ns ms).take i), z < gs.length := by
        have : ∀ j, (app ns ((told ns ms).take j)).Perm ns := by
          intro j
          induction j with
          | zero => exact List.Perm.refl _
          | succ j ih =>
            rcases Nat.lt_or_ge j (told ns ms).length with hj | hj
            · have hg := List.getElem?_eq_getElem hj
              rw [take_get hg, app_snoc]
              exact (swp_perm (t3 j _ hg).1).trans ih
            · rw [List.take_of_length_le (by omega)]
              rw [List.take_of_length_le hj] at ih
              exact ih
        have h2 := (this i).trans pn
        exact ⟨by rw [h2.length_eq, List.length_range], fun z hz => List.mem_range.mp (h2.mem_iff.mp hz)⟩
      generalize app ns ((told ns ms).take i) = at_ at l1 l2 pat eL ⊢
      obtain ⟨pl, pr⟩ := pat
      obtain ⟨u, hu⟩ : ∃ u, at_[k]? = some u := ⟨_, List.getElem?_eq_getElem (by omega)⟩
      obtain ⟨v, hv⟩ : ∃ v, at_[k + 1]? = some v := ⟨_, List.getElem?_eq_getElem l1⟩
      obtain ⟨g, hg⟩ : ∃ g, gs[u]? = some g := ⟨_, List.getElem?_eq_getElem (pr _ (List.mem_of_getElem? hu))⟩
      obtain ⟨h, hh⟩ : ∃ g, gs[v]? = some g := ⟨_, List.getElem?_eq_getElem (pr _ (List.mem_of_getElem? hv))⟩
      have au : atI (nts at_) (k : Int) = some (.int (u : Nat)) := atI_nat (nts_at? hu)
      have av : atI (nts at_) ((k : Int) + 1) = some (.int (v : Nat)) := atI_nat (j := k + 1) (nts_at? hv)
      have eT : touchS g h = false := by
        rw [List.getD_eq_getElem?_getD, List.getD_eq_getElem?_getD, hu, hv] at l2
        have l2 : touchAt gs u v = false := l2
        unfold touchAt at l2
        rw [hg, hh] at l2
        exact l2
      refine ⟨.int k, rfl, k, rfl, true, rfl, iteF ?_⟩
      refine ⟨.int k, rfl, k, 0, rfl, rfl, _, rfl, ?_⟩
      rw [decide_eq_false (by omega)]
      refine iteF ⟨.int k, rfl, k, 1, rfl, rfl, .ref L, rfl, .ref L, _, rfl, .inl ⟨_, sqL eL, (nts_len at_).symm⟩, _, _, rfl, rfl, _, rfl, ?_⟩
      rw [decide_eq_false (by omega)]
      refine iteF ⟨.ref f, rfl, .ref L, rfl, .int k, rfl, L, _, k, _, rfl, rfl, sqL eL, au, .ref L, rfl, .int k, rfl, k, 1, rfl, rfl, L, _, (k : Int) + 1, _, rfl, rfl, sqL eL, av, f, gs, u, v, u, v, g, h, rfl, rfl, rfl, f5, hg, hh, _, rfl, ?_⟩
      rw [eT]
      refine iteF ⟨.ref L, rfl, .int k, rfl, k, 1, rfl, rfl, L, _, (k : Int) + 1, _, rfl, rfl, sqL eL, av, .ref L, rfl, .int k, rfl, L, _, k, _, rfl, rfl, sqL eL, au, by show 2 ≤ sizeLine; decide, fun V nV => ?_⟩
      have hLV : L ≠ V := ne_of_none eL nV
      refine ⟨V, _, rfl, sqT upd_same, rfl, _, _, rfl, .ref L, rfl, .int k, rfl, L, _, k, k, rfl, rfl, by rw [upd_ne hLV]; exact eL, by rw [nts_len]; exact ixN_nat (by omega), ?_⟩
      refine ⟨_, _, rfl, .ref L, rfl, .int k, rfl, k, 1, rfl, rfl, L, _, (k : Int) + 1, k + 1, rfl, rfl, upd_same, by rw [List.length_set, nts_len]; exact ixN_nat (i := k + 1) l1, rfl, ?_⟩
      have sV : Same H5 (upd H5 V (.tup [.int (v : Nat), .int (u : Nat)])) := same_upd nV
      have kT : KeepT H5 (upd (upd (upd H5 V (.tup [.int (v : Nat), .int (u : Nat)])) L (.lst ((nts at_).set k (.int (v : Nat))))) L (.lst (((nts at_).set k (.int (v : Nat))).set (k + 1) (.int (u : Nat))))) :=
        ((keepT_same sV).trans (keepT_lst (sV _ _ eL))).trans (keepT_lst upd_same)
      refine ⟨⟨_, rfl⟩, fun b o e => ?_, kT _ _ eW5, f5.keep kT, ?_⟩
      · rw [upd_ne (ne_of_none e nLH), upd_ne (ne_of_none e nLH)]
        exact sV _ _ (s5 _ _ e)
      · rw [upd_same, swp_nts hu hv]
    · rintro σ H5 ⟨⟨c7, rfl⟩, s5, eW5, f5, eL⟩
      rw [nts_len, List.take_of_length_le (Nat.le_refl _), t2] at eL
      refine ⟨.ref L, rfl, .ref p, rfl, p, _, rfl, .inl (sqL (s5 _ _ hp)), fun M nM => ?_⟩
      refine ⟨.list ((ms.map fun (n : Nat) => (n : Int)).map PyData.int), .list ((ms.map fun (n : Nat) => (n : Int)).map PyData.int), .lst (sqL (same_upd nM _ _ eL)) (dpNts _), .lst (sqL upd_same) (dpNts _), shInts _, shInts _, ?_⟩
      rw [show PyData.eqv (.list ((ms.map fun (n : Nat) => (n : Int)).map PyData.int)) (.list ((ms.map fun (n : Nat) => (n : Int)).map PyData.int)) = decide ((ms.map fun (n : Nat) => (n : Int)) = (ms.map fun (n : Nat) => (n : Int))) from eqvInts _ _, decide_eq_true rfl]
      exact q _ (s5.trans (same_upd nM))
end
end K7

set_option maxRecDepth 100000
set_option maxHeartbeats 4000000
namespace K7
open PySem PySem.Spec PyProof.Rows L2 GX NdefX
/-! ### _law_word -/
/-- what is asked of the classes where they are caught -/
structure Xt (K : PySem.W.Frag) (mg : Str → Option Value) (CB CN CM : Addr) where
  CR : Addr
  gR : mg "RungsError" = some (.ref CR)
  xB : XfC K CB
  xN : XfC K CN
  xM : XfC K CM
  mm : PySem.W.exmOne K (.ref CM) (.ref CM) = some true
  bm : PySem.W.exmOne K (.ref CB) (.ref CM) = some false
  bb : PySem.W.exmOne K (.ref CB) (.ref CB) = some true
  nm : PySem.W.exmOne K (.ref CN) (.ref CM) = some false
  nb : PySem.W.exmOne K (.ref CN) (.ref CB) = some false
  nn : PySem.W.exmOne K (.ref CN) (.ref CN) = some true
def Out (H : Hp) (Q : VK) (l : List V) : Prop := ∀ D H', Same H H' → H D = none → H' D = some (.tup l) → Q (.ref D) H'
def spWord : Sp := fun vs H Q _ => ∃ (t : Int) (f : Addr) (gs : List Rung) (x y : V), vs = [.int t, .ref f, x, y] ∧ Frm H f gs ∧ gs.length ≤ 100 ∧
  ((8 < gs.length ∧ Out H Q [.str "many", .int 8]) ∨ (gs.length ≤ 8 ∧ ∃ i : Nat, badAt [] 0 gs = some i ∧ Out H Q [.str "frame", .int (i : Nat)]) ∨
   (FrOk gs ∧ ((BadOrd H x gs.length ∧ Out H Q [.str "number", .str "order"]) ∨ (t = 0 ∧ GoodOrd H x gs.length ∧ BadOrd H y gs.length ∧ Out H Q [.str "number", .str "other"]))))
theorem Out.same {H H1 : Hp} {Q : VK} {l : List V} (h : Out H Q l) (s : Same H H1) : Out H1 Q l := fun D H' s' n e => h D H' (s.trans s') (none_of_same s n) e
section
variable {P : Program} {w : World} {K : PySem.W.Frag} {mg : Str → Option Value} {base : Heap}
theorem ok_word (G : Pg P K mg) (T : Xt K mg G.X.CB G.X.CN G.X.CM) {f : Addr} {fd : FuncData} (F : Fun K "_law_word" "_law_word" sLWord f fd) :
    FnOk P w K mg base CX0 6 f fd ["turn", "frame", "order", "other"] spWord := by
  have GS : FnOk P w K mg base (CX P w) 5 G.f8 G.d8 ["frame", "order", "other"] (spSwaps G.X.CB G.X.CN G.X.CM) := ok_swaps G
  have GD : FnOk P w K mg base (CX P w) 4 G.f6 G.d6 ["frame", "order"] (spDirections G.X.CB G.X.CN G.X.CM) := ok_directions G
  refine F.ok scWord (fun vs H Q E h => ?_) (fun cdv A outer s H vs Q E hr h => ?_)
  · obtain ⟨t, f, gs, x, y, rfl, _⟩ := h
    rfl
  · obtain ⟨t, f, gs, x, y, rfl, hf, hl, h⟩ := h
    refine ⟨_, pss_cons (ps_set (i := 4) scWord.nd rfl (.inl rfl) (pe_tup (pa_cons pe_str pa_nil)))
      (pss_cons (ps_try_manyA rfl rfl scWord.nd takes0
          (fun W pn xe tk _ => pss_one (ps_if (pt_cmpR op_eq (pv 0) pe_int (nomark _))
            (pss_one (ps_expr (pe_callS GS hr (by rfl) G.g8 G.O8.kp G.b8 (fun σ => passAt tk σ) (pa_cons (pv 1) (pa_cons (pv 2) (pa_cons (pv 3) pa_nil))))))
            (pss_one (ps_expr (pe_callS GD (hr.mono (by decide)) (by rfl) G.g6 G.O6.kp G.b6 (fun σ => passAt tk σ) (pa_cons (pv 1) (pa_cons (pv 2) pa_nil)))))))
          (HdsA.named (i := 5) (c := .ref G.X.CM) ⟨by rfl, by decide, .inl G.X.gM⟩ rfl rfl (fun a oe cls d pn hz hv => pss_one (ps_set (i := 4) scWord.nd rfl (.inl rfl) (pe_tup (pa_cons pe_str (pa_cons (pe_xf T.xM G.X.nM hz hv (pv 5)) pa_nil)))))
          (HdsA.named (i := 5) (c := .ref G.X.CB) ⟨by rfl, by decide, .inl G.X.gB⟩ rfl rfl (fun a oe cls d pn hz hv => pss_one (ps_set (i := 4) scWord.nd rfl (.inl rfl) (pe_tup (pa_cons (pe_xf T.xB G.X.nB hz hv (pv 5)) (pa_cons (pe_xf T.xB G.X.nB2 hz hv (pv 5)) pa_nil)))))
          (HdsA.named (i := 5) (c := .ref G.X.CN) ⟨by rfl, by decide, .inl G.X.gN⟩ rfl rfl (fun a oe cls d pn hz hv => pss_one (ps_set (i := 4) scWord.nd rfl (.inl rfl) (pe_tup (pa_cons pe_str (pa_cons (pe_xf T.xN G.X.nN hz hv (pv 5)) pa_nil)))))
          (HdsA.plain (c := .ref T.CR) ⟨by rfl, by decide, .inl T.gR⟩ (fun a oe cls d pn hz hv => pss_one (ps_set (i := 4) scWord.nd rfl (.inl rfl) (pe_tup (pa_cons pe_str pa_nil)))) HdsA.nil)))))
      (pss_one (ps_ret (pv 4)))), ?_⟩
    refine ⟨by show 1 ≤ sizeLine; decide, fun T0 nT0 => ?_⟩
    have s0 : Same H (upd H T0 (.tup [.str "none"])) := same_upd nT0
    have hf0 := hf.same s0
    refine ⟨.int t, rfl, rfl, _, rfl, ?_⟩
    by_cases ht : t = 0
    · subst ht
      rw [decide_eq_true rfl]
      refine iteT ⟨.ref f, rfl, x, rfl, y, rfl, f, gs, x, y, rfl, hf0, hl, ?_⟩
      rcases h with ⟨h8, oo⟩ | ⟨h8, i, hi, oo⟩ | ⟨ok, ⟨hb, oo⟩ | ⟨_, hg, hb, oo⟩⟩
      · refine .inl (.inl ⟨h8, fun d H' s' e => ?_⟩)
        refine ⟨true, T.mm, fun _ a na => ?_, fun z => Bool.noConfusion z⟩
        refine ⟨.ref a, rfl, rfl, rfl, d, _, .int 8, rfl, e, rfl, by show 2 ≤ sizeLine; decide, fun U nU => ⟨.ref U, rfl, oo U _ ((s0.trans s').trans (same_upd nU)) (none_of_same (s0.trans s') nU) upd_same⟩⟩

      · refine .inl (.inr ⟨h8, i, hi, fun d H' s' e => ?_⟩)
        refine ⟨false, T.bm, fun z => Bool.noConfusion z, fun _ => ⟨true, T.bb, fun _ a na => ?_, fun z => Bool.noConfusion z⟩⟩
        refine ⟨.ref a, rfl, rfl, rfl, d, _, .str "frame", rfl, e, rfl, .ref a, rfl, rfl, rfl, d, _, .int (i : Nat), rfl, e, rfl, by show 2 ≤ sizeLine; decide, fun U nU => ⟨.ref U, rfl, oo U _ ((s0.trans s').trans (same_upd nU)) (none_of_same (s0.trans s') nU) upd_same⟩⟩

      · refine .inr ⟨ok, .inl ⟨hb.same s0, fun d H' s' e => ?_⟩⟩
        refine ⟨false, T.nm, fun z => Bool.noConfusion z, fun _ => ⟨false, T.nb, fun z => Bool.noConfusion z, fun _ => ⟨true, T.nn, fun _ a na => ?_, fun z => Bool.noConfusion z⟩⟩⟩
        refine ⟨.ref a, rfl, rfl, rfl, d, _, .str "order", rfl, e, rfl, by show 2 ≤ sizeLine; decide, fun U nU => ⟨.ref U, rfl, oo U _ ((s0.trans s').trans (same_upd nU)) (none_of_same (s0.trans s') nU) upd_same⟩⟩

      · refine .inr ⟨ok, .inr (.inl ⟨hg.same s0, hb.same s0, fun d H' s' e => ?_⟩)⟩
        refine ⟨false, T.nm, fun z => Bool.noConfusion z, fun _ => ⟨false, T.nb, fun z => Bool.noConfusion z, fun _ => ⟨true, T.nn, fun _ a na => ?_, fun z => Bool.noConfusion z⟩⟩⟩
        refine ⟨.ref a, rfl, rfl, rfl, d, _, .str "other", rfl, e, rfl, by show 2 ≤ sizeLine; decide, fun U nU => ⟨.ref U, rfl, oo U _ ((s0.trans s').trans (same_upd nU)) (none_of_same (s0.trans s') nU) upd_same⟩⟩

    · rw [decide_eq_false (fun z => ht (V.int.inj z))]
      refine iteF ⟨.ref f, rfl, x, rfl, f, gs, x, rfl, hf0, hl, ?_⟩
      rcases h with ⟨h8, oo⟩ | ⟨h8, i, hi, oo⟩ | ⟨ok, ⟨hb, oo⟩ | ⟨ht2, _⟩⟩
      · refine .inl (.inl ⟨h8, fun d H' s' e => ?_⟩)
        refine ⟨true, T.mm, fun _ a na => ?_, fun z => Bool.noConfusion z⟩
        refine ⟨.ref a, rfl, rfl, rfl, d, _, .int 8, rfl, e, rfl, by show 2 ≤ sizeLine; decide, fun U nU => ⟨.ref U, rfl, oo U _ ((s0.trans s').trans (same_upd nU)) (none_of_same (s0.trans s') nU) upd_same⟩⟩

      · refine .inl (.inr ⟨h8, i, hi, fun d H' s' e => ?_⟩)
        refine ⟨false, T.bm, fun z => Bool.noConfusion z, fun _ => ⟨true, T.bb, fun _ a na => ?_, fun z => Bool.noConfusion z⟩⟩
        refine ⟨.ref a, rfl, rfl, rfl, d, _, .str "frame", rfl, e, rfl, .ref a, rfl, rfl, rfl, d, _, .int (i : Nat), rfl, e, rfl, by show 2 ≤ sizeLine; decide, fun U nU => ⟨.ref U, rfl, oo U _ ((s0.trans s').trans (same_upd nU)) (none_of_same (s0.trans s') nU) upd_same⟩⟩

      · refine .inr ⟨ok, .inl ⟨hb.same s0, fun d H' s' e => ?_⟩⟩
        refine ⟨false, T.nm, fun z => Bool.noConfusion z, fun _ => ⟨false, T.nb, fun z => Bool.noConfusion z, fun _ => ⟨true, T.nn, fun _ a na => ?_, fun z => Bool.noConfusion z⟩⟩⟩
        refine ⟨.ref a, rfl, rfl, rfl, d, _, .str "order", rfl, e, rfl, by show 2 ≤ sizeLine; decide, fun U nU => ⟨.ref U, rfl, oo U _ ((s0.trans s').trans (same_upd nU)) (none_of_same (s0.trans s') nU) upd_same⟩⟩

      · exact absurd ht2 ht
end
end K7

set_option maxRecDepth 100000
set_option maxHeartbeats 4000000
namespace K7
open PySem PySem.Spec PyProof.Rows L2 GX NdefX
/-! ### _law_refused -/
theorem poolName_ok {k : Nat} {z : Str} (hk : k < 9) (h : PoolName k z) : NameOk z := by
  obtain ⟨l1, l2, m1, m2, h⟩ := h
  have hl : ∀ c ∈ poolLetters.cps.toList, c ∈ signs.cps.toList ∧ c ∈ letters.cps.toList := by decide
  have hd : ∀ k : Nat, k < 9 → 48 + k ∈ signs.cps.toList ∧ 48 + k ≠ 46 ∧ ∀ x ∈ wordsV, ∀ z : Str, x = .str z → z.cps.toList.getLast? ≠ some (48 + k) := by
    intro k hk
    refine ⟨by revert k; decide, by omega, fun x hx z e => ?_⟩
    subst e
    have hx2 : z ∈ (["not", "and", "or", "rise", "fall"] : List Str) := by
      obtain ⟨u, hu, e⟩ := List.mem_map.mp (show V.str z ∈ (["not", "and", "or", "rise", "fall"] : List Str).map V.str from hx)
      exact (V.str.inj e) ▸ hu
    have : ∀ z ∈ (["not", "and", "or", "rise", "fall"] : List Str), ∀ k : Nat, k < 9 → z.cps.toList.getLast? ≠ some (48 + k) := by decide
    exact this z hx2 k hk
  obtain ⟨d1, d2, d3⟩ := hd k hk
  have s46 : 46 ∈ signs.cps.toList := by decide
  have hlen : z.cps.size = z.cps.toList.length := Array.length_toList.symm
  have hall : ∀ c ∈ z.cps.toList, c ∈ signs.cps.toList := by
    intro c hc
    rcases h with h | h | h <;> rw [h] at hc <;> simp at hc
    · rcases hc with e | e
      · exact e ▸ (hl _ m1).1
      · exact e ▸ d1
    · rcases hc with e | e | e | e
      · exact e ▸ (hl _ m1).1
      · exact e ▸ s46
      · exact e ▸ (hl _ m2).1
      · exact e ▸ d1
    · rcases hc with e | e | e
      · exact e ▸ (hl _ m1).1
      · exact e ▸ (hl _ m2).1
      · exact e ▸ d1
  have hlast : z.cps.toList.getLast? = some (48 + k) := by
    rcases h with h | h | h <;> rw [h] <;> rfl
  refine ⟨?_, ?_, fun hw => ?_, hall, ⟨l1, ?_, (hl _ m1).2⟩, ⟨48 + k, hlast, d2⟩⟩
  · rw [hlen]
    rcases h with h | h | h <;> rw [h] <;> simp
  · rw [hlen]
    rcases h with h | h | h <;> rw [h] <;> simp
  · exact d3 _ hw z rfl hlast
  · rcases h with h | h | h <;> rw [h] <;> rfl
theorem pool_nodup {n : Nat} {p : List Str} (h9 : n ≤ 9) (h : PoolOk n p) : p.Nodup := by
  refine List.pairwise_iff_getElem.mpr fun i j hi hj hij e => ?_
  obtain ⟨a1, a2, _, _, ha⟩ := h.2 i _ (List.getElem?_eq_getElem hi)
  obtain ⟨b1, b2, _, _, hb⟩ := h.2 j _ (List.getElem?_eq_getElem hj)
  rw [e] at ha
  have l1 : (p[j]).cps.toList.getLast? = some (48 + i) := by
    rcases ha with h | h | h <;> rw [h] <;> rfl
  have l2 : (p[j]).cps.toList.getLast? = some (48 + j) := by
    rcases hb with h | h | h <;> rw [h] <;> rfl
  rw [l1] at l2
  have := Option.some.inj l2
  omega
theorem frame_good {pool : List Str} {m : Nat} {gs : List Rung} (hp : PoolOk 9 pool) (hm : m ≤ 8) (h : FrameOk pool m gs) : GoodF gs := by
  have hmem : ∀ z ∈ pool, NameOk z := fun z hz => by
    obtain ⟨i, hi, e⟩ := List.getElem_of_mem hz
    have := hp.1
    exact poolName_ok (by omega) (hp.2 i z (by rw [List.getElem?_eq_getElem hi, e]))
  have nd := pool_nodup (by decide) hp
  refine ⟨⟨by rw [h.len]; exact hm, ?_⟩, fun g hg => ?_⟩
  · have key : ∀ (i : Nat) (l : List Rung), i + l.length = gs.length → (∀ j g, l[j]? = some g → gs[i + j]? = some g) → badAt ((pool.take i)) i l = none := by
      intro i l
      induction l generalizing i with
      | nil => exact fun _ _ => rfl
      | cons g r ih =>
        intro hl hg
        have g0 := hg 0 g rfl
        rw [Nat.add_zero] at g0
        obtain ⟨e1, e2, _⟩ := h.each i g g0
        rw [badAt, if_neg]
        · rw [show pool.take i ++ [g.name] = pool.take (i + 1) from (take_get e1).symm]
          refine ih (i + 1) (by rw [List.length_cons] at hl; omega) fun j g' hj => ?_
          have := hg (j + 1) g' hj
          rw [show i + 1 + j = i + (j + 1) by omega]
          exact this
        · rintro (z | z)
          · rw [e2] at z
            cases z
          · obtain ⟨j, hj, ej⟩ := List.getElem_of_mem z
            rw [List.length_take] at hj
            rw [List.getElem_take] at ej
            obtain ⟨hi, ei⟩ := List.getElem?_eq_some_iff.mp e1
            have := (List.getElem_inj (h₀ := by omega) (h₁ := hi) nd).mp (ej.trans ei.symm)
            omega
    exact key 0 gs (by omega) fun j g hj => by rw [Nat.zero_add]; exact hj
  · obtain ⟨i, hi, e⟩ := List.getElem_of_mem hg
    obtain ⟨e1, e2, e3, e4⟩ := h.each i g (by rw [List.getElem?_eq_getElem hi, e])
    exact ⟨hmem _ (List.mem_of_getElem? e1), fun z hz => hmem z (e3 z hz), by omega⟩
/-- a list of rungs made by a comprehension -/
theorem lcRungs {J : It} {n : Nat} {g : TG} {te : TE} {vs : List Nat} {σ : L2.St} {H1 : Hp} {D : Addr} {Qd : Hp → Prop} (rg : Nat → Rung) (nD : H1 D = none) (hn : n ≤ 4000) (go : ∀ i H, i < n → Same H1 H → J.go i H) (stop : ∀ H, Same H1 H → J.stop n H)
    (turn : ∀ i x H H' (Qk : VK), i < n → Same H1 H → J.yld i H x H' → (∀ T H4, RgAt H4 T (rg i) → Same H H4 → Qk (.ref T) H4) → g x (wipe σ vs) H' fun σ2 H2 => wipe σ2 vs = wipe σ vs ∧ te σ2 H2 Qk)
    (done : ∀ H rs, Same H1 H → H D = some (.lst (rs.map V.ref)) → RgsAt H rs ((List.range n).map rg) → Qd H) :
    ∃ W : Nat → Nat → Hp → Prop, (∃ m, W 0 m (upd H1 D (.lst []))) ∧ ∀ i m H, W i m H →
      (J.stop i H ∧ Qd H) ∨ (J.go i H ∧ ∃ Nx : Hp → Prop, (∀ H', Nx H' → ∃ m', m' < m ∧ W (i + 1) m' H') ∧ ∀ x H', J.yld i H x H' → g x (wipe σ vs) H' fun σ2 H2 => wipe σ2 vs = wipe σ vs ∧ tYes σ2 H2 fun b H3 =>
        if b = true then te σ2 H3 fun y H4 => ∃ acc, H4 D = some (.lst acc) ∧ acc.length < sizeLine ∧ Nx (upd H4 D (.lst (acc ++ [y]))) else Nx H3) := by
  refine ⟨fun i m H => m = n - i ∧ i ≤ n ∧ Same H1 H ∧ ∃ rs, H D = some (.lst (rs.map V.ref)) ∧ RgsAt H rs ((List.range i).map rg), ⟨n, rfl, Nat.zero_le _, same_upd nD, [], upd_same, .nil⟩, ?_⟩
  rintro i m H ⟨rfl, hi, sm, rs, eD, pt⟩
  by_cases hlt : i < n
  · refine .inr ⟨go i H hlt sm, fun H' => Same H1 H' ∧ ∃ rs, H' D = some (.lst (rs.map V.ref)) ∧ RgsAt H' rs ((List.range (i + 1)).map rg), fun H' p => ⟨n - (i + 1), by omega, rfl, hlt, p.1, p.2⟩, fun x H' y => ?_⟩
    refine turn i x H H' _ hlt sm y fun T H4 eT s4 => ⟨rs.map V.ref, s4 _ _ eD, ?_, fun b o e => ?_, rs ++ [T], by rw [upd_same, List.map_append]; rfl, ?_⟩
    · rw [List.length_map, pt.length, List.length_map, List.length_range, sizeLine_eq]
      omega
    · rw [upd_ne (ne_of_none e nD)]
      exact s4 _ _ (sm _ _ e)
    · rw [List.range_succ, List.map_append]
      have kT : KeepT H4 (upd H4 D (.lst (rs.map V.ref ++ [.ref T]))) := keepT_lst (s4 _ _ eD)
      obtain ⟨q, h1, h2⟩ := eT
      exact paired_snoc ((pt.same s4).keep kT) ⟨q, kT _ _ h1, kT _ _ h2⟩
  · have e : i = n := by omega
    subst e
    exact .inl ⟨stop H sm, done H rs sm eD pt⟩
def spRefused : Sp := fun vs H Q _ => ∃ (p f o : Addr) (pool : List Str) (gs : List Rung) (ns : List Nat), vs = [.ref p, .ref f, .ref o] ∧ H p = some (.lst (txs pool)) ∧ PoolOk 9 pool ∧ FrmT H f gs ∧ GoodF gs ∧ 1 ≤ gs.length ∧ H o = some (.lst (nts ns)) ∧ ns.Perm (List.range gs.length) ∧ ∀ H', Same H H' → Q (.bl true) H'
end K7

set_option maxRecDepth 100000
set_option maxHeartbeats 4000000
namespace K7
open PySem PySem.Spec PyProof.Rows L2 GX NdefX
theorem badAt_snoc {g : Rung} : ∀ (gs : List Rung) (seen : List Str) (i : Nat), badAt seen i gs = none → g.name ∈ seen ++ gs.map (·.name) → badAt seen i (gs ++ [g]) = some (i + gs.length)
  | [], seen, i, _, h => by
    rw [List.map_nil, List.append_nil] at h
    show badAt seen i [g] = _
    rw [badAt, if_pos (.inr h)]
    rfl
  | a :: r, seen, i, hb, h => by
    rw [badAt] at hb
    by_cases c : ascS a.reads = false ∨ a.name ∈ seen
    · rw [if_pos c] at hb
      cases hb
    · rw [if_neg c] at hb
      show badAt seen i (a :: (r ++ [g])) = _
      rw [badAt, if_neg c, badAt_snoc r _ _ hb (by rw [List.append_assoc]; exact h), List.length_cons]
      exact congrArg some (by omega)
theorem shSI (z : Str) (n : Int) (h : PyData.canLay0 (.str z) = true) : SeqAt.shaped (.tuple [.str z, .int n]) = true := by
  unfold SeqAt.shaped
  rw [show PyData.canLay0 (.tuple [.str z, .int n]) = (PyData.canLay0 (.str z) && (PyData.canLay0 (.int n) && PyData.canLayAll0 [])) from rfl, h]
  rfl
theorem eqSI (z : Str) (n : Int) : (!PyData.eqv (.tuple [.str z, .int n]) (.tuple [.str z, .int n])) = false := by
  rw [PyData.eqv, PyData.eqvAll, PyData.eqvAll, PyData.eqvAll, PyData.eqv, PyData.eqv]
  simp
theorem asc_same (z : Str) : ascS [z, z] = false := by
  show (decide (z.cps.toList < z.cps.toList) && true) = false
  rw [decide_eq_false (List.lt_irrefl _)]
  rfl
theorem bad2 (z0 z1 : Str) : badAt [] 0 [⟨[], z0⟩, ⟨[z0, z0], z1⟩] = some 1 := by
  have h1 : ascS ([] : List Str) = true := rfl
  rw [badAt, if_neg (fun h => h.elim (fun z => by rw [h1] at z; cases z) (fun z => absurd z (by simp))), badAt, if_pos (.inl (asc_same z0))]
theorem nt_len {ns : List Nat} {xs : List V} {m : Nat} (h : xs.length ≠ m) : ¬ IsOrd xs m := fun z => h (isOrd_len z)
theorem nt_mem {xs : List V} {m : Nat} {x : V} (hx : x ∈ xs) (h : ∀ k : Nat, k < m → x ≠ .int (k : Nat)) : ¬ IsOrd xs m := by
  rintro ⟨ns, rfl, p⟩
  obtain ⟨k, hk, rfl⟩ := List.mem_map.mp hx
  exact h k (List.mem_range.mp (p.mem_iff.mp hk)) rfl
theorem nts_kind {l : List Nat} : ∀ y ∈ nts l, (∃ i, y = .int i) ∨ ∃ b, y = .bl b := fun y hy => by
  obtain ⟨n, _, rfl⟩ := List.mem_map.mp hy
  exact .inl ⟨_, rfl⟩
section
variable {P : Program} {w : World} {K : PySem.W.Frag} {mg : Str → Option Value} {base : Heap}
theorem ok_refused (G : Pg P K mg) (T : Xt K mg G.X.CB G.X.CN G.X.CM) {f fW : Addr} {fd fdW : FuncData} (F : Fun K "_law_refused" "_law_refused" sLRefused f fd)
    (FW : Fun K "_law_word" "_law_word" sLWord fW fdW) (bW : Binds K fdW ["turn", "frame", "order", "other"] []) (gW : mg "_law_word" = some (.ref fW)) :
    FnOk P w K mg base CX0 7 f fd ["pool", "frame", "order"] spRefused := by
  have GW : FnOk P w K mg base CX0 6 fW fdW ["turn", "frame", "order", "other"] spWord := ok_word G T FW
  refine F.ok scRefused (fun vs H Q E h => ?_) (fun cdv A outer s H vs Q E hr h => ?_)
  · obtain ⟨p, f, o, pool, gs, ns, rfl, _⟩ := h
    rfl
  · obtain ⟨p, f, o, pool, gs, ns, rfl, hp, hpool, hf, gf, h1, ho, pn, q⟩ := h
    refine ⟨_, pss_cons (ps_set (i := 3) scRefused.nd rfl (.inl rfl) (pe_callB call_len (by rfl) G.B.len PySem.boot_len (pa_cons (pv 2) pa_nil)))
      (pss_cons (ps_for PassesOwn.never rfl (pi_list (pe_lst (pa_cons (pe_slice sl_list (pv 2) (po_some pe_int) po_none) (pa_cons (pe_op op_cat (pv 2) (pe_lst (pa_cons pe_int pa_nil)))
          (pa_cons (pe_op op_cat (pe_lst (pa_cons (pv 3) pa_nil)) (pe_slice sl_list (pv 2) (po_some pe_int) po_none)) (pa_cons (pe_op op_cat (pe_lst (pa_cons (pe_un un_neg pe_int) pa_nil)) (pe_slice sl_list (pv 2) (po_some pe_int) po_none))
          (pa_cons (pe_op op_cat (pe_lst (pa_cons pe_bl pa_nil)) (pe_slice sl_list (pv 2) (po_some pe_int) po_none)) (pa_cons pe_non (pa_cons pe_int (pa_cons pe_str pa_nil)))))))))) (pg_name (i := 4) scRefused.nd rfl (.inl rfl))
        (pss_cons (ps_for PassesOwn.never rfl (pi_range1 (by rfl) G.B.range (pa_cons pe_int pa_nil)) (pg_name (i := 5) scRefused.nd rfl (.inl rfl))
          (pss_one (ps_if (pt_cmpR (op_neD hr.units) (pe_call GW hr (by rfl) gW FW.kp bW .nil pass0 (pa_cons (pv 5) (pa_cons (pv 1) (pa_cons (pv 4) (pa_cons pe_non pa_nil))))) (pe_tup (pa_cons pe_str (pa_cons pe_str pa_nil))) (nomark _)) (pss_one (ps_ret pe_bl)) pss_nil)))
        (pss_one (ps_if (pt_cmpR (op_neD hr.units) (pe_call GW hr (by rfl) gW FW.kp bW .nil pass0 (pa_cons pe_int (pa_cons (pv 1) (pa_cons (pv 2) (pa_cons (pv 4) pa_nil))))) (pe_tup (pa_cons pe_str (pa_cons pe_str pa_nil))) (nomark _)) (pss_one (ps_ret pe_bl)) pss_nil))))
      (pss_cons (ps_if (pt_cmpR op_gt (pv 3) pe_int (nomark _))
        (pss_cons (ps_setLc (i := 6) (own := [("k", 7)]) (g := gName 7) (tt := tYes) rfl scRefused.nd rfl rfl (sw_true rfl rfl rfl (by decide +kernel)) (pi_range1 (by rfl) G.B.range (pa_cons (pv 3) pa_nil)) (blkOk_by (own := [("k", 7)]) (N := ["pool", "frame", "order", "many", "bad", "turn", "twice", "k", "name"]) (sc := defScope sLRefused) (by decide +kernel)) (fun _ _ _ _ _ => pg_name (i := 7) scRefused.nd rfl (Or.inl rfl)) (fun _ _ _ _ _ => pts_nil)
          (fun _ _ _ _ _ => pe_ix (r := rIxL K) ix_list (pv 2) pe_int (fun _ _ => rfl)))
        (pss_cons (ps_if (pt_cmpR (op_neD hr.units) (pe_call GW hr (by rfl) gW FW.kp bW .nil pass0 (pa_cons pe_int (pa_cons (pv 1) (pa_cons (pv 2) (pa_cons (pv 6) pa_nil))))) (pe_tup (pa_cons pe_str (pa_cons pe_str pa_nil))) (nomark _)) (pss_one (ps_ret pe_bl)) pss_nil)
        (pss_one (ps_if (pt_cmpR (op_neD hr.units) (pe_call GW hr (by rfl) gW FW.kp bW .nil pass0 (pa_cons pe_int (pa_cons (pv 1) (pa_cons (pv 6) (pa_cons pe_int pa_nil))))) (pe_tup (pa_cons pe_str (pa_cons pe_str pa_nil))) (nomark _)) (pss_one (ps_ret pe_bl)) pss_nil)))) pss_nil)
      (pss_cons (ps_for PassesOwn.never rfl (pi_range1 (by rfl) G.B.range (pa_cons pe_int pa_nil)) (pg_name (i := 5) scRefused.nd rfl (.inl rfl))
        (pss_cons (ps_if (pt_cmpR (op_neD hr.units) (pe_call GW hr (by rfl) gW FW.kp bW .nil pass0 (pa_cons (pv 5) (pa_cons (pe_callTy call_tuple_of (by rfl) G.B.tuple (by decide +kernel) (pa_cons
            (pe_lc (own := [("name", 8)]) (g := gName 8) (tt := tYes) rfl scRefused.nd (pi_list (pe_slice sl_list (pv 0) po_none (po_some pe_int))) (blkOk_by (own := [("name", 8)]) (N := ["pool", "frame", "order", "many", "bad", "turn", "twice", "k", "name"]) (sc := defScope sLRefused) (by decide +kernel)) (fun _ _ _ _ _ => pg_name (i := 8) scRefused.nd rfl (Or.inl rfl)) (fun _ _ _ _ _ => pts_nil) (fun _ _ _ _ _ => pe_tup (pa_cons (pe_tup pa_nil) (pa_cons (pv 8) pa_nil)))) pa_nil))
            (pa_cons pe_non (pa_cons pe_non pa_nil))))) (pe_tup (pa_cons pe_str (pa_cons pe_int pa_nil))) (nomark _)) (pss_one (ps_ret pe_bl)) pss_nil)
        (pss_cons (ps_if (pt_cmpR (op_neD hr.units) (pe_call GW hr (by rfl) gW FW.kp bW .nil pass0 (pa_cons (pv 5) (pa_cons (pe_op op_catT (pv 1) (pe_tup (pa_cons (pe_ix (r := rIxT K) ix_tup (pv 1) pe_int (fun _ _ => rfl)) pa_nil))) (pa_cons pe_non (pa_cons pe_non pa_nil)))))
            (pe_ix (r := rIxL K) ix_list (pe_lst (pa_cons (pe_tup (pa_cons pe_str (pa_cons (pv 3) pa_nil))) (pa_cons (pe_tup (pa_cons pe_str (pa_cons pe_int pa_nil))) pa_nil))) (pe_callTy call_int1 (by rfl) G.B.int (by decide +kernel) (pa_cons (pe_cmpR op_eq (pv 3) pe_int (nomark _)) pa_nil)) (fun _ _ => rfl)) (nomark _)) (pss_one (ps_ret pe_bl)) pss_nil)
        (pss_one (ps_if (pt_cmpR (op_neD hr.units) (pe_call GW hr (by rfl) gW FW.kp bW .nil pass0 (pa_cons (pv 5) (pa_cons (pe_tup (pa_cons (pe_tup (pa_cons (pe_tup pa_nil) (pa_cons (pe_ix (r := rIxL K) ix_list (pv 0) pe_int (fun _ _ => rfl)) pa_nil))) (pa_cons (pe_tup (pa_cons (pe_tup (pa_cons (pe_ix (r := rIxL K) ix_list (pv 0) pe_int (fun _ _ => rfl)) (pa_cons (pe_ix (r := rIxL K) ix_list (pv 0) pe_int (fun _ _ => rfl)) pa_nil))) (pa_cons (pe_ix (r := rIxL K) ix_list (pv 0) pe_int (fun _ _ => rfl)) pa_nil))) pa_nil)))
            (pa_cons pe_non (pa_cons pe_non pa_nil))))) (pe_tup (pa_cons pe_str (pa_cons pe_int pa_nil))) (nomark _)) (pss_one (ps_ret pe_bl)) pss_nil)))))
      (pss_one (ps_ret pe_bl))))), ?_⟩
    have hnl : ns.length = gs.length := by rw [pn.length_eq, List.length_range]
    have h8 := gf.ok.1
    refine ⟨.ref o, rfl, .ref o, gs.length, rfl, .inl ⟨_, sqL ho, by rw [nts_len, hnl]⟩, ?_⟩
    -- order[1:]
    refine ⟨.ref o, rfl, 1, rfl, o, _, rfl, sqL ho, fun p1 n1 => ?_⟩
    rw [cut1]
    have s1 : Same H (upd H p1 (.lst (nts ns).tail)) := same_upd n1
    have e1 : upd H p1 (.lst (nts ns).tail) p1 = some (.lst (nts ns).tail) := upd_same
    generalize upd H p1 (.lst (nts ns).tail) = H1 at s1 e1 ⊢
    have ho1 := s1 _ _ ho
    -- order + [0]
    refine ⟨.ref o, rfl, by show 1 ≤ sizeLine; decide, fun p2 n2 => ?_⟩
    refine ⟨o, p2, _, _, rfl, rfl, same_upd n2 _ _ ho1, upd_same, by rw [nts_len, sizeLine_eq]; show ns.length + 1 ≤ _; omega, fun p3 n3 => ?_⟩
    have s3 : Same H1 (upd (upd H1 p2 (.lst [.int 0])) p3 (.lst (nts ns ++ [.int 0]))) := (same_upd n2).trans (same_upd n3)
    have e3 : upd (upd H1 p2 (.lst [.int 0])) p3 (.lst (nts ns ++ [.int 0])) p3 = some (.lst (nts ns ++ [.int 0])) := upd_same
    generalize upd (upd H1 p2 (.lst [.int 0])) p3 (.lst (nts ns ++ [.int 0])) = H3 at s3 e3 ⊢
    have s03 := s1.trans s3
    -- [many] + order[1:]
    refine ⟨.int (gs.length : Nat), rfl, by show 1 ≤ sizeLine; decide, fun p4 n4 => ?_⟩
    refine ⟨.ref o, rfl, 1, rfl, o, _, rfl, sqL (same_upd n4 _ _ (s03 _ _ ho)), fun p5 n5 => ?_⟩
    rw [cut1]
    refine ⟨p4, p5, _, _, rfl, rfl, same_upd n5 _ _ upd_same, upd_same, by rw [List.length_tail, nts_len, sizeLine_eq]; show 1 + (ns.length - 1) ≤ _; omega, fun p6 n6 => ?_⟩
    have s6 : Same H3 (upd (upd (upd H3 p4 (.lst [.int (gs.length : Nat)])) p5 (.lst (nts ns).tail)) p6 (.lst ([.int (gs.length : Nat)] ++ (nts ns).tail))) := ((same_upd n4).trans (same_upd n5)).trans (same_upd n6)
    have e6 : upd (upd (upd H3 p4 (.lst [.int (gs.length : Nat)])) p5 (.lst (nts ns).tail)) p6 (.lst ([.int (gs.length : Nat)] ++ (nts ns).tail)) p6 = some (.lst ([.int (gs.length : Nat)] ++ (nts ns).tail)) := upd_same
    generalize upd (upd (upd H3 p4 (.lst [.int (gs.length : Nat)])) p5 (.lst (nts ns).tail)) p6 (.lst ([.int (gs.length : Nat)] ++ (nts ns).tail)) = H6 at s6 e6 ⊢
    have s06 := s03.trans s6
    refine ⟨1, rfl, by show 1 ≤ sizeLine; decide, fun p7 n7 => ?_⟩
    refine ⟨.ref o, rfl, 1, rfl, o, _, rfl, sqL (same_upd n7 _ _ (s06 _ _ ho)), fun p8 n8 => ?_⟩
    rw [cut1]
    refine ⟨p7, p8, _, _, rfl, rfl, same_upd n8 _ _ upd_same, upd_same, by rw [List.length_tail, nts_len, sizeLine_eq]; show 1 + (ns.length - 1) ≤ _; omega, fun p9 n9 => ?_⟩
    have s9 : Same H6 (upd (upd (upd H6 p7 (.lst [.int (-1)])) p8 (.lst (nts ns).tail)) p9 (.lst ([.int (-1)] ++ (nts ns).tail))) := ((same_upd n7).trans (same_upd n8)).trans (same_upd n9)
    have e9 : upd (upd (upd H6 p7 (.lst [.int (-1)])) p8 (.lst (nts ns).tail)) p9 (.lst ([.int (-1)] ++ (nts ns).tail)) p9 = some (.lst ([.int (-1)] ++ (nts ns).tail)) := upd_same
    generalize upd (upd (upd H6 p7 (.lst [.int (-1)])) p8 (.lst (nts ns).tail)) p9 (.lst ([.int (-1)] ++ (nts ns).tail)) = H9 at s9 e9 ⊢
    have s09 := s06.trans s9
    refine ⟨by show 1 ≤ sizeLine; decide, fun p10 n10 => ?_⟩
    refine ⟨.ref o, rfl, 1, rfl, o, _, rfl, sqL (same_upd n10 _ _ (s09 _ _ ho)), fun p11 n11 => ?_⟩
    rw [cut1]
    refine ⟨p10, p11, _, _, rfl, rfl, same_upd n11 _ _ upd_same, upd_same, by rw [List.length_tail, nts_len, sizeLine_eq]; show 1 + (ns.length - 1) ≤ _; omega, fun p12 n12 => ?_⟩
    have s12 : Same H9 (upd (upd (upd H9 p10 (.lst [.bl true])) p11 (.lst (nts ns).tail)) p12 (.lst ([.bl true] ++ (nts ns).tail))) := ((same_upd n10).trans (same_upd n11)).trans (same_upd n12)
    have e12 : upd (upd (upd H9 p10 (.lst [.bl true])) p11 (.lst (nts ns).tail)) p12 (.lst ([.bl true] ++ (nts ns).tail)) p12 = some (.lst ([.bl true] ++ (nts ns).tail)) := upd_same
    generalize upd (upd (upd H9 p10 (.lst [.bl true])) p11 (.lst (nts ns).tail)) p12 (.lst ([.bl true] ++ (nts ns).tail)) = H12 at s12 e12 ⊢
    have s012 := s09.trans s12
    refine ⟨by show 8 ≤ sizeLine; decide, fun L nL => ⟨L, rfl, ⟨_, sqL upd_same⟩, ?_⟩⟩
    have sL : Same H12 (upd H12 L (.lst [.ref p1, .ref p3, .ref p6, .ref p9, .ref p12, .non, .int 3, .str "0"])) := same_upd nL
    have eL : upd H12 L (.lst [.ref p1, .ref p3, .ref p6, .ref p9, .ref p12, .non, .int 3, .str "0"]) L = some (.lst [.ref p1, .ref p3, .ref p6, .ref p9, .ref p12, .non, .int 3, .str "0"]) := upd_same
    generalize upd H12 L (.lst [.ref p1, .ref p3, .ref p6, .ref p9, .ref p12, .non, .int 3, .str "0"]) = HL at sL eL ⊢
    have s0L := s012.trans sL
    have tl : (nts ns).tail.length = gs.length - 1 := by rw [List.length_tail, nts_len, hnl]
    have kt : ∀ y ∈ (nts ns).tail, (∃ i, y = .int i) ∨ ∃ b, y = .bl b := fun y hy => nts_kind y (List.mem_of_mem_tail hy)
    have bad : ∀ x ∈ ([.ref p1, .ref p3, .ref p6, .ref p9, .ref p12, .non, .int 3, .str "0"] : List V), BadOrd HL x gs.length := by
      intro x hx
      simp only [List.mem_cons, List.not_mem_nil, or_false] at hx
      rcases hx with e | e | e | e | e | e | e | e <;> subst e
      · exact .inr ⟨p1, _, rfl, .inl (sL _ _ (s12 _ _ (s9 _ _ (s6 _ _ (s3 _ _ e1))))), by omega, kt, nt_len (ns := ns) (by omega)⟩
      · refine .inr ⟨p3, _, rfl, .inl (sL _ _ (s12 _ _ (s9 _ _ (s6 _ _ e3)))), ?_, fun y hy => ?_, nt_len (ns := ns) ?_⟩
        · rw [List.length_append, nts_len]
          show ns.length + 1 ≤ 1000
          omega
        · rcases List.mem_append.mp hy with z | z
          · exact nts_kind y z
          · rw [List.mem_singleton.mp z]
            exact .inl ⟨_, rfl⟩
        · rw [List.length_append, nts_len]
          show ns.length + 1 ≠ gs.length
          omega
      · refine .inr ⟨p6, _, rfl, .inl (sL _ _ (s12 _ _ (s9 _ _ e6))), ?_, fun y hy => ?_, nt_mem (x := .int (gs.length : Nat)) (List.mem_append_left _ List.mem_cons_self) fun k hk e => ?_⟩
        · rw [List.length_append, tl]
          show 1 + (gs.length - 1) ≤ 1000
          omega
        · rcases List.mem_append.mp hy with z | z
          · rw [List.mem_singleton.mp z]
            exact .inl ⟨_, rfl⟩
          · exact kt y z
        · have := V.int.inj e
          omega
      · refine .inr ⟨p9, _, rfl, .inl (sL _ _ (s12 _ _ e9)), ?_, fun y hy => ?_, nt_mem (x := .int (-1)) (List.mem_append_left _ List.mem_cons_self) fun k hk e => ?_⟩
        · rw [List.length_append, tl]
          show 1 + (gs.length - 1) ≤ 1000
          omega
        · rcases List.mem_append.mp hy with z | z
          · rw [List.mem_singleton.mp z]
            exact .inl ⟨_, rfl⟩
          · exact kt y z
        · have := V.int.inj e
          omega
      · refine .inr ⟨p12, _, rfl, .inl (sL _ _ e12), ?_, fun y hy => ?_, nt_mem (x := .bl true) (List.mem_append_left _ List.mem_cons_self) fun k hk e => ?_⟩
        · rw [List.length_append, tl]
          show 1 + (gs.length - 1) ≤ 1000
          omega
        · rcases List.mem_append.mp hy with z | z
          · rw [List.mem_singleton.mp z]
            exact .inr ⟨_, rfl⟩
          · exact kt y z
        · cases e
      · exact .inl (.inl rfl)
      · exact .inl (.inr (.inl ⟨_, rfl⟩))
      · exact .inl (.inr (.inr ⟨_, rfl⟩))
    have frm : ∀ H', Same H H' → Frm H' f gs := fun H' s' => frm_of (hf.same s') gf
    have good : ∀ H', Same H H' → GoodOrd H' (.ref o) gs.length := fun H' s' => ⟨o, ns, rfl, .inl (s' _ _ ho), pn⟩
    refine for_list (K := K) (xs := [.ref p1, .ref p3, .ref p6, .ref p9, .ref p12, .non, .int 3, .str "0"]) (D := { nx := _, rt := Q }) (fun i σ H' => (∃ c4 c5, σ = [some (.ref p), some (.ref f), some (.ref o), some (.int (gs.length : Nat)), c4, c5, none, none, none]) ∧ Same HL H') ?_ ?_ ?_ ?_
    · exact ⟨⟨_, _, rfl⟩, Same.refl _⟩
    · exact fun i σ H' _ h => sqL (h.2 _ _ eL)
    · rintro i x σ H2 hx ⟨⟨c4, c5, rfl⟩, s2⟩
      have hb := bad x (List.mem_of_getElem? hx)
      refine ⟨2, rfl, by decide, by decide, ?_⟩
      refine for_range (D := { nx := _, rt := Q }) (fun j σ H' => (∃ c5, σ = [some (.ref p), some (.ref f), some (.ref o), some (.int (gs.length : Nat)), some x, c5, none, none, none]) ∧ Same HL H') ?_ ?_ ?_
      · exact ⟨⟨_, rfl⟩, s2⟩
      · rintro j σ H3 hj ⟨⟨c5, rfl⟩, s3⟩
        refine ⟨_, rfl, .ref f, rfl, x, rfl, _, f, gs, x, .non, rfl, frm _ (s0L.trans s3), by omega, .inr (.inr ⟨gf.ok, .inl ⟨hb.same s3, fun D H4 s4 nD eD => ?_⟩⟩)⟩
        refine ⟨by show 2 ≤ sizeLine; decide, fun U nU => ⟨.tuple [.str "number", .str "order"], .tuple [.str "number", .str "order"], .tup (sqT (same_upd nU _ _ eD)) (.cons (.str _) (.cons (.str _) .nil)), .tup (sqT upd_same) (.cons (.str _) (.cons (.str _) .nil)), by decide +kernel, by decide +kernel, _, rfl, ?_⟩⟩
        rw [show (!PyData.eqv (.tuple [.str "number", .str "order"]) (.tuple [.str "number", .str "order"])) = false by decide]

        exact iteF ⟨⟨_, rfl⟩, (s3.trans s4).trans (same_upd nU)⟩
      · rintro σ H3 ⟨⟨c5, rfl⟩, s3⟩
        refine ⟨.ref f, rfl, .ref o, rfl, x, rfl, 0, f, gs, .ref o, x, rfl, frm _ (s0L.trans s3), by omega, .inr (.inr ⟨gf.ok, .inr ⟨rfl, good _ (s0L.trans s3), hb.same s3, fun D H4 s4 nD eD => ?_⟩⟩)⟩
        refine ⟨by show 2 ≤ sizeLine; decide, fun U nU => ⟨.tuple [.str "number", .str "other"], .tuple [.str "number", .str "other"], .tup (sqT (same_upd nU _ _ eD)) (.cons (.str _) (.cons (.str _) .nil)), .tup (sqT upd_same) (.cons (.str _) (.cons (.str _) .nil)), by decide +kernel, by decide +kernel, _, rfl, ?_⟩⟩
        rw [show (!PyData.eqv (.tuple [.str "number", .str "other"]) (.tuple [.str "number", .str "other"])) = false by decide]

        exact iteF ⟨⟨_, _, rfl⟩, (s3.trans s4).trans (same_upd nU)⟩
    · rintro σ H2 ⟨⟨c4, c5, rfl⟩, s2⟩
      have s02 := s0L.trans s2
      refine ⟨.int (gs.length : Nat), rfl, (gs.length : Nat), 1, rfl, rfl, _, rfl, ?_⟩
      by_cases hm1 : (1 : Int) < ((gs.length : Nat) : Int)
      · rw [decide_eq_true hm1]
        refine iteT ⟨.int (gs.length : Nat), rfl, (gs.length : Nat), rfl, by omega, by omega, fun D nD => ?_⟩
        obtain ⟨a0, ha0⟩ : ∃ a0, ns[0]? = some a0 := ⟨_, List.getElem?_eq_getElem (by omega)⟩
        refine lcMap (n := ((gs.length : Nat) : Int).toNat) (fun _ => .int (a0 : Nat)) nD (by omega) (fun i H3 h s3 => h) (fun H3 s3 => Nat.le_refl _) (fun i x H3 H' Qk Qn hi s3 y hk => ?_) (fun H3 s3 e3 => ?_)
        · obtain ⟨rfl, rfl⟩ := y
          refine ⟨rfl, ?_⟩
          exact ⟨.ref o, rfl, o, nts ns, 0, .int (a0 : Nat), rfl, rfl, sqL (s3 _ _ (s02 _ _ ho)), atI_nat (j := 0) (nts_at? ha0), hk _ (Same.refl _)⟩
        have hb : BadOrd H3 (.ref D) gs.length := by
          refine .inr ⟨D, _, rfl, .inl e3, by rw [List.length_map, List.length_range]; omega, fun y hy => ?_, ?_⟩
          · obtain ⟨_, _, rfl⟩ := List.mem_map.mp hy
            exact .inl ⟨_, rfl⟩
          · rintro ⟨ks, ek, pk⟩
            have hkn : ks.Nodup := pk.nodup_iff.mpr List.nodup_range
            have hkl : ks.length = gs.length := by rw [pk.length_eq, List.length_range]
            have g : ∀ i, i < gs.length → ks[i]? = some a0 := fun i hi => by
              have h1 : (ks.map fun (n : Nat) => V.int (n : Int))[i]? = some (.int (a0 : Nat)) := by
                rw [← ek, List.getElem?_map, List.getElem?_range (by omega)]
                rfl
              rw [List.getElem?_map, List.getElem?_eq_getElem (by omega)] at h1
              rw [List.getElem?_eq_getElem (by omega)]
              have := V.int.inj (Option.some.inj h1)
              exact congrArg some (by omega)
            have x1 := idx_of_get hkn (g 0 (by omega))
            have x2 := idx_of_get hkn (g 1 (by omega))
            omega
        have s03 := s02.trans s3
        refine ⟨.ref f, rfl, .ref o, rfl, .ref D, rfl, 0, f, gs, .ref o, .ref D, rfl, frm _ s03, by omega, .inr (.inr ⟨gf.ok, .inr ⟨rfl, good _ s03, hb, fun D H4 s4 nD eD => ?_⟩⟩)⟩
        refine ⟨by show 2 ≤ sizeLine; decide, fun U nU => ⟨.tuple [.str "number", .str "other"], .tuple [.str "number", .str "other"], .tup (sqT (same_upd nU _ _ eD)) (.cons (.str _) (.cons (.str _) .nil)), .tup (sqT upd_same) (.cons (.str _) (.cons (.str _) .nil)), by decide +kernel, by decide +kernel, _, rfl, ?_⟩⟩
        rw [show (!PyData.eqv (.tuple [.str "number", .str "other"]) (.tuple [.str "number", .str "other"])) = false by decide]

        have s5 := s4.trans (same_upd nU (o := .tup [.str "number", .str "other"]))
        refine iteF ⟨.ref f, rfl, .ref _, rfl, 1, f, gs, .ref _, .int 0, rfl, frm _ (s03.trans s5), by omega, .inr (.inr ⟨gf.ok, .inl ⟨hb.same s5, fun D H6 s6 nD eD => ?_⟩⟩)⟩
        refine ⟨by show 2 ≤ sizeLine; decide, fun U nU => ⟨.tuple [.str "number", .str "order"], .tuple [.str "number", .str "order"], .tup (sqT (same_upd nU _ _ eD)) (.cons (.str _) (.cons (.str _) .nil)), .tup (sqT upd_same) (.cons (.str _) (.cons (.str _) .nil)), by decide +kernel, by decide +kernel, _, rfl, ?_⟩⟩
        rw [show (!PyData.eqv (.tuple [.str "number", .str "order"]) (.tuple [.str "number", .str "order"])) = false by decide]

        refine iteF ?_
        have s07 := ((s03.trans s5).trans s6).trans (same_upd nU (o := .tup [.str "number", .str "order"]))
        refine ⟨2, rfl, by decide, by decide, ?_⟩
        refine for_range (D := { nx := _, rt := Q }) (fun j σ H' => (∃ c4 c5 c6, σ = [some (.ref p), some (.ref f), some (.ref o), some (.int (gs.length : Nat)), c4, c5, c6, none, none]) ∧ Same H H') ?_ ?_ ?_
        · exact ⟨⟨_, _, _, rfl⟩, s07⟩
        · rintro j σ H8 hj ⟨⟨c4, c5, c6, rfl⟩, s8⟩
          have hp8 := s8 _ _ hp
          have pl := hpool.1
          have nok : ∀ i, i < 9 → ∃ z, pool[i]? = some z ∧ NameOk z := fun i hi => ⟨_, List.getElem?_eq_getElem (by omega), poolName_ok hi (hpool.2 i _ (List.getElem?_eq_getElem (by omega)))⟩
          refine ⟨_, rfl, .ref p, rfl, 9, rfl, p, txs pool, rfl, sqL hp8, fun S nS => ?_⟩
          rw [show cutV (txs pool) none (some 9) = txs pool from (cut_to (txs pool) 9).trans (List.take_of_length_le (by unfold txs; rw [List.length_map, pl]; exact Nat.le_refl _))]
          have sS : Same H8 (upd H8 S (.lst (txs pool))) := same_upd nS
          have eS : upd H8 S (.lst (txs pool)) S = some (.lst (txs pool)) := upd_same
          generalize upd H8 S (.lst (txs pool)) = H9 at sS eS ⊢
          refine ⟨S, rfl, ⟨_, sqL eS⟩, fun D nD => ?_⟩
          refine lcRungs (n := 9) (fun i => ⟨[], pool.getD i (Str.ofString "")⟩) nD (by decide) (fun i H5 h s5 => ⟨_, _, sqL (s5 _ _ eS), txs_get (nok i h).choose_spec.1⟩) (fun H5 s5 => ⟨_, sqL (s5 _ _ eS), by unfold txs; rw [List.length_map, pl]; exact Nat.le_refl _⟩) (fun i x H5 H' Qk hi s5 y hk => ?_) (fun H6 rs s6 e6 hrs => ?_)
          · obtain ⟨rfl, hx⟩ := y
            obtain ⟨z, hz, _⟩ := nok i hi
            have hx := (hx _ (sqL (s5 _ _ eS))).symm.trans (txs_get hz)
            cases hx
            refine ⟨rfl, ?_⟩
            refine ⟨Nat.zero_le _, fun q1 nq1 => ⟨.str z, rfl, by show 2 ≤ sizeLine; decide, fun R nR => ?_⟩⟩
            refine hk R _ ⟨q1, ?_, same_upd nR _ _ upd_same⟩ ((same_upd nq1).trans (same_upd nR))
            rw [upd_same, List.getD_eq_getElem?_getD, hz]
            rfl
          refine ⟨D, _, rfl, .inl ⟨sqL e6, fun l nl => ?_⟩⟩
          have sl : Same H6 (upd H6 l (.tup (rs.map V.ref))) := same_upd nl
          have s86 := (s8.trans sS).trans (s6.trans sl)
          refine ⟨_, l, (List.range 9).map fun i => ⟨[], pool.getD i (Str.ofString "")⟩, .non, .non, rfl, ⟨rs, .inr upd_same, hrs.same sl, fun g hg => ?_⟩, by rw [List.length_map, List.length_range]; decide, .inl ⟨by rw [List.length_map, List.length_range]; decide, fun D H7 s7 nD eD => ?_⟩⟩
          · obtain ⟨i, hi, rfl⟩ := List.mem_map.mp hg
            obtain ⟨z, hz, hok⟩ := nok i (List.mem_range.mp hi)
            refine ⟨?_, fun z h => absurd h (by simp), by show 0 ≤ 100; decide⟩
            show NameOk (pool.getD i _)
            rw [List.getD_eq_getElem?_getD, hz]
            exact hok
          refine ⟨by show 2 ≤ sizeLine; decide, fun U nU => ⟨.tuple [.str "many", .int 8], .tuple [.str "many", .int 8], .tup (sqT (same_upd nU _ _ eD)) (.cons (.str _) (.cons (.int _) .nil)), .tup (sqT upd_same) (.cons (.str _) (.cons (.int _) .nil)), by decide +kernel, by decide +kernel, _, rfl, ?_⟩⟩
          rw [show (!PyData.eqv (.tuple [.str "many", .int 8]) (.tuple [.str "many", .int 8])) = false by decide]

          refine iteF ?_
          have s9 := (s86.trans s7).trans (same_upd nU (o := .tup [.str "many", .int 8]))
          generalize upd H7 U (.tup [.str "many", .int 8]) = HB at s9 ⊢
          -- frame + (frame[0],)
          obtain ⟨fr, hfr, hfrs⟩ := hf
          have frl : fr.length = gs.length := hfrs.length
          obtain ⟨r0, hr0⟩ : ∃ r, fr[0]? = some r := ⟨_, List.getElem?_eq_getElem (by omega)⟩
          obtain ⟨g0, hg0, _⟩ := paired_get hfrs hr0
          have x0 : (fr.map V.ref)[0]? = some (.ref r0) := by rw [List.getElem?_map, hr0]; rfl
          refine ⟨_, rfl, .ref f, rfl, .ref f, rfl, f, _, 0, .ref r0, rfl, rfl, sqT (s9 _ _ hfr), atI_nat (j := 0) x0, by show 1 ≤ sizeLine; decide, fun B nB => ?_⟩
          refine ⟨f, B, fr.map V.ref, [.ref r0], rfl, rfl, sqT (same_upd nB _ _ (s9 _ _ hfr)), sqT upd_same, ?_, by rw [List.length_map, frl, sizeLine_eq]; show gs.length + 1 ≤ _; omega, (fun z => by cases z), fun _ A nA => ?_⟩
          · intro z
            rw [z] at x0
            simp at x0
          have sA := s9.trans ((same_upd nB (o := .tup [.ref r0])).trans (same_upd nA (o := .tup (fr.map V.ref ++ [.ref r0]))))
          have fA : Frm (upd (upd HB B (.tup [.ref r0])) A (.tup (fr.map V.ref ++ [.ref r0]))) A (gs ++ [g0]) := by
            refine ⟨fr ++ [r0], .inr ?_, ?_, fun g hg => ?_⟩
            · rw [upd_same, List.map_append]
              rfl
            · have h := hfrs.same sA
              obtain ⟨g', hg', hrg⟩ := paired_get h hr0
              rw [hg0] at hg'
              cases hg'
              exact paired_snoc h hrg
            · rcases List.mem_append.mp hg with z | z
              · exact gf.names g z
              · rw [List.mem_singleton.mp z]
                exact gf.names g0 (List.mem_of_getElem? hg0)
          have lA : (gs ++ [g0]).length = gs.length + 1 := by rw [List.length_append]; rfl
          have bA : badAt [] 0 (gs ++ [g0]) = some gs.length := by
            rw [badAt_snoc gs [] 0 gf.ok.2 (List.mem_map.mpr ⟨g0, List.mem_of_getElem? hg0, rfl⟩), Nat.zero_add]
          by_cases hn8 : gs.length = 8
          · refine ⟨_, A, gs ++ [g0], .non, .non, rfl, fA, by rw [lA]; omega, .inl ⟨by omega, fun D H7 s7 nD eD => ?_⟩⟩
            refine ⟨.int (gs.length : Nat), rfl, by show 2 ≤ sizeLine; decide, fun A1 nA1 => ⟨by show 2 ≤ sizeLine; decide, fun B1 nB1 => ⟨by show 2 ≤ sizeLine; decide, fun L1 nL1 => ?_⟩⟩⟩
            have v1 := same_upd nA1 (o := .tup [.str "frame", .int (gs.length : Nat)])
            have v2 := same_upd nB1 (o := .tup [.str "many", .int 8])
            have v3 := same_upd nL1 (o := .lst [.ref A1, .ref B1])
            have sC := (sA.trans s7).trans (v1.trans (v2.trans v3))
            have k1 := (v1.trans (v2.trans v3)) _ _ eD
            have k2 := (v2.trans v3) _ _ (upd_same (o := HO.tup [.str "frame", .int (gs.length : Nat)]))
            have k3 := v3 _ _ (upd_same (o := HO.tup [.str "many", .int 8]))
            refine ⟨.int (gs.length : Nat), rfl, rfl, .inr ⟨_, rfl, L1, _, 1, .ref B1, rfl, by rw [decide_eq_true (show V.int (gs.length : Nat) = .int 8 by rw [hn8]; rfl)]; rfl, sqL upd_same, atI_nat (j := 1) rfl, ?_⟩⟩
            refine ⟨.tuple [.str "many", .int 8], .tuple [.str "many", .int 8], .tup (sqT k1) (.cons (.str _) (.cons (.int _) .nil)), .tup (sqT k3) (.cons (.str _) (.cons (.int _) .nil)), shSI _ _ (by decide +kernel), shSI _ _ (by decide +kernel), _, rfl, ?_⟩
            rw [eqSI]
            refine iteF ?_
            generalize upd (upd (upd H7 A1 (.tup [.str "frame", .int (gs.length : Nat)])) B1 (.tup [.str "many", .int 8])) L1 (.lst [.ref A1, .ref B1]) = HC at sC ⊢
            clear k1 k2 k3 v1 v2 v3
            obtain ⟨z0, hz0, ok0⟩ := nok 0 (by decide)
            obtain ⟨z1, hz1, ok1⟩ := nok 1 (by decide)
            have a0 : atI (txs pool) 0 = some (.str z0) := atI_nat (j := 0) (txs_get hz0)
            have a1 : atI (txs pool) 1 = some (.str z1) := atI_nat (j := 1) (txs_get hz1)
            refine ⟨_, rfl, Nat.zero_le _, fun q1 nq1 => ?_⟩
            have t1 := sC.trans (same_upd nq1 (o := .tup []))
            refine ⟨.ref p, rfl, p, _, 0, .str z0, rfl, rfl, sqL (t1 _ _ hp), a0, by show 2 ≤ sizeLine; decide, fun R1 nR1 => ?_⟩
            have u2 := same_upd nR1 (o := .tup [.ref q1, .str z0])
            have t2 := t1.trans u2
            have g1 : upd (upd HC q1 (.tup [])) R1 (.tup [.ref q1, .str z0]) q1 = some (.tup []) := u2 _ _ upd_same
            have g2 : upd (upd HC q1 (.tup [])) R1 (.tup [.ref q1, .str z0]) R1 = some (.tup [.ref q1, .str z0]) := upd_same
            generalize upd (upd HC q1 (.tup [])) R1 (.tup [.ref q1, .str z0]) = HD at t2 g1 g2 ⊢
            refine ⟨.ref p, rfl, p, _, 0, .str z0, rfl, rfl, sqL (t2 _ _ hp), a0, .ref p, rfl, p, _, 0, .str z0, rfl, rfl, sqL (t2 _ _ hp), a0, by show 2 ≤ sizeLine; decide, fun q2 nq2 => ?_⟩
            have u3 := same_upd nq2 (o := .tup [.str z0, .str z0])
            refine ⟨.ref p, rfl, p, _, 1, .str z1, rfl, rfl, sqL ((t2.trans u3) _ _ hp), a1, by show 2 ≤ sizeLine; decide, fun R2 nR2 => ⟨by show 2 ≤ sizeLine; decide, fun F2 nF2 => ?_⟩⟩
            have u4 := same_upd nR2 (o := .tup [.ref q2, .str z1])
            have u5 := same_upd nF2 (o := .tup [.ref R1, .ref R2])
            have t5 := t2.trans (u3.trans (u4.trans u5))
            refine ⟨_, F2, [⟨[], z0⟩, ⟨[z0, z0], z1⟩], .non, .non, rfl, ⟨[R1, R2], .inr upd_same, .cons ⟨q1, (u3.trans (u4.trans u5)) _ _ g2, (u3.trans (u4.trans u5)) _ _ g1⟩ (.cons ⟨q2, u5 _ _ upd_same, (u4.trans u5) _ _ upd_same⟩ .nil), fun g hg => ?_⟩, by show 2 ≤ 100; decide, .inr (.inl ⟨by show 2 ≤ 8; decide, 1, ?_, fun D H7 s7 nD eD => ?_⟩)⟩
            · simp only [List.mem_cons, List.not_mem_nil, or_false] at hg
              rcases hg with e | e <;> subst e
              · exact ⟨ok0, fun z h => absurd h (by simp), by show 0 ≤ 100; decide⟩
              · refine ⟨ok1, fun z h => ?_, by show 2 ≤ 100; decide⟩
                simp at h
                rw [h]
                exact ok0
            · exact bad2 z0 z1
            refine ⟨by show 2 ≤ sizeLine; decide, fun U nU => ⟨.tuple [.str "frame", .int 1], .tuple [.str "frame", .int 1], .tup (sqT (same_upd nU _ _ eD)) (.cons (.str _) (.cons (.int _) .nil)), .tup (sqT upd_same) (.cons (.str _) (.cons (.int _) .nil)), by decide +kernel, by decide +kernel, _, rfl, ?_⟩⟩
            rw [show (!PyData.eqv (.tuple [.str "frame", .int 1]) (.tuple [.str "frame", .int 1])) = false by decide]
            exact iteF ⟨⟨_, _, _, rfl⟩, (t5.trans s7).trans (same_upd nU)⟩

          · refine ⟨_, A, gs ++ [g0], .non, .non, rfl, fA, by rw [lA]; omega, .inr (.inl ⟨by omega, gs.length, bA, fun D H7 s7 nD eD => ?_⟩)⟩
            refine ⟨.int (gs.length : Nat), rfl, by show 2 ≤ sizeLine; decide, fun A1 nA1 => ⟨by show 2 ≤ sizeLine; decide, fun B1 nB1 => ⟨by show 2 ≤ sizeLine; decide, fun L1 nL1 => ?_⟩⟩⟩
            have v1 := same_upd nA1 (o := .tup [.str "frame", .int (gs.length : Nat)])
            have v2 := same_upd nB1 (o := .tup [.str "many", .int 8])
            have v3 := same_upd nL1 (o := .lst [.ref A1, .ref B1])
            have sC := (sA.trans s7).trans (v1.trans (v2.trans v3))
            have k1 := (v1.trans (v2.trans v3)) _ _ eD
            have k2 := (v2.trans v3) _ _ (upd_same (o := HO.tup [.str "frame", .int (gs.length : Nat)]))
            have k3 := v3 _ _ (upd_same (o := HO.tup [.str "many", .int 8]))
            refine ⟨.int (gs.length : Nat), rfl, rfl, .inr ⟨_, rfl, L1, _, 0, .ref A1, rfl, by rw [decide_eq_false (show ¬ V.int (gs.length : Nat) = .int 8 from fun z => hn8 (by have := V.int.inj z; omega))]; rfl, sqL upd_same, atI_nat (j := 0) rfl, ?_⟩⟩
            refine ⟨.tuple [.str "frame", .int (gs.length : Nat)], .tuple [.str "frame", .int (gs.length : Nat)], .tup (sqT k1) (.cons (.str _) (.cons (.int _) .nil)), .tup (sqT k2) (.cons (.str _) (.cons (.int _) .nil)), shSI _ _ (by decide +kernel), shSI _ _ (by decide +kernel), _, rfl, ?_⟩
            rw [eqSI]
            refine iteF ?_
            generalize upd (upd (upd H7 A1 (.tup [.str "frame", .int (gs.length : Nat)])) B1 (.tup [.str "many", .int 8])) L1 (.lst [.ref A1, .ref B1]) = HC at sC ⊢
            clear k1 k2 k3 v1 v2 v3
            obtain ⟨z0, hz0, ok0⟩ := nok 0 (by decide)
            obtain ⟨z1, hz1, ok1⟩ := nok 1 (by decide)
            have a0 : atI (txs pool) 0 = some (.str z0) := atI_nat (j := 0) (txs_get hz0)
            have a1 : atI (txs pool) 1 = some (.str z1) := atI_nat (j := 1) (txs_get hz1)
            refine ⟨_, rfl, Nat.zero_le _, fun q1 nq1 => ?_⟩
            have t1 := sC.trans (same_upd nq1 (o := .tup []))
            refine ⟨.ref p, rfl, p, _, 0, .str z0, rfl, rfl, sqL (t1 _ _ hp), a0, by show 2 ≤ sizeLine; decide, fun R1 nR1 => ?_⟩
            have u2 := same_upd nR1 (o := .tup [.ref q1, .str z0])
            have t2 := t1.trans u2
            have g1 : upd (upd HC q1 (.tup [])) R1 (.tup [.ref q1, .str z0]) q1 = some (.tup []) := u2 _ _ upd_same
            have g2 : upd (upd HC q1 (.tup [])) R1 (.tup [.ref q1, .str z0]) R1 = some (.tup [.ref q1, .str z0]) := upd_same
            generalize upd (upd HC q1 (.tup [])) R1 (.tup [.ref q1, .str z0]) = HD at t2 g1 g2 ⊢
            refine ⟨.ref p, rfl, p, _, 0, .str z0, rfl, rfl, sqL (t2 _ _ hp), a0, .ref p, rfl, p, _, 0, .str z0, rfl, rfl, sqL (t2 _ _ hp), a0, by show 2 ≤ sizeLine; decide, fun q2 nq2 => ?_⟩
            have u3 := same_upd nq2 (o := .tup [.str z0, .str z0])
            refine ⟨.ref p, rfl, p, _, 1, .str z1, rfl, rfl, sqL ((t2.trans u3) _ _ hp), a1, by show 2 ≤ sizeLine; decide, fun R2 nR2 => ⟨by show 2 ≤ sizeLine; decide, fun F2 nF2 => ?_⟩⟩
            have u4 := same_upd nR2 (o := .tup [.ref q2, .str z1])
            have u5 := same_upd nF2 (o := .tup [.ref R1, .ref R2])
            have t5 := t2.trans (u3.trans (u4.trans u5))
            refine ⟨_, F2, [⟨[], z0⟩, ⟨[z0, z0], z1⟩], .non, .non, rfl, ⟨[R1, R2], .inr upd_same, .cons ⟨q1, (u3.trans (u4.trans u5)) _ _ g2, (u3.trans (u4.trans u5)) _ _ g1⟩ (.cons ⟨q2, u5 _ _ upd_same, (u4.trans u5) _ _ upd_same⟩ .nil), fun g hg => ?_⟩, by show 2 ≤ 100; decide, .inr (.inl ⟨by show 2 ≤ 8; decide, 1, ?_, fun D H7 s7 nD eD => ?_⟩)⟩
            · simp only [List.mem_cons, List.not_mem_nil, or_false] at hg
              rcases hg with e | e <;> subst e
              · exact ⟨ok0, fun z h => absurd h (by simp), by show 0 ≤ 100; decide⟩
              · refine ⟨ok1, fun z h => ?_, by show 2 ≤ 100; decide⟩
                simp at h
                rw [h]
                exact ok0
            · exact bad2 z0 z1
            refine ⟨by show 2 ≤ sizeLine; decide, fun U nU => ⟨.tuple [.str "frame", .int 1], .tuple [.str "frame", .int 1], .tup (sqT (same_upd nU _ _ eD)) (.cons (.str _) (.cons (.int _) .nil)), .tup (sqT upd_same) (.cons (.str _) (.cons (.int _) .nil)), by decide +kernel, by decide +kernel, _, rfl, ?_⟩⟩
            rw [show (!PyData.eqv (.tuple [.str "frame", .int 1]) (.tuple [.str "frame", .int 1])) = false by decide]
            exact iteF ⟨⟨_, _, _, rfl⟩, (t5.trans s7).trans (same_upd nU)⟩

        · rintro σ H8 ⟨⟨c4, c5, c6, rfl⟩, s8⟩
          exact q H8 s8
      · rw [decide_eq_false hm1]
        refine iteF ?_
        have s07 := s02
        refine ⟨2, rfl, by decide, by decide, ?_⟩
        refine for_range (D := { nx := _, rt := Q }) (fun j σ H' => (∃ c4 c5 c6, σ = [some (.ref p), some (.ref f), some (.ref o), some (.int (gs.length : Nat)), c4, c5, c6, none, none]) ∧ Same H H') ?_ ?_ ?_
        · exact ⟨⟨_, _, _, rfl⟩, s07⟩
        · rintro j σ H8 hj ⟨⟨c4, c5, c6, rfl⟩, s8⟩
          have hp8 := s8 _ _ hp
          have pl := hpool.1
          have nok : ∀ i, i < 9 → ∃ z, pool[i]? = some z ∧ NameOk z := fun i hi => ⟨_, List.getElem?_eq_getElem (by omega), poolName_ok hi (hpool.2 i _ (List.getElem?_eq_getElem (by omega)))⟩
          refine ⟨_, rfl, .ref p, rfl, 9, rfl, p, txs pool, rfl, sqL hp8, fun S nS => ?_⟩
          rw [show cutV (txs pool) none (some 9) = txs pool from (cut_to (txs pool) 9).trans (List.take_of_length_le (by unfold txs; rw [List.length_map, pl]; exact Nat.le_refl _))]
          have sS : Same H8 (upd H8 S (.lst (txs pool))) := same_upd nS
          have eS : upd H8 S (.lst (txs pool)) S = some (.lst (txs pool)) := upd_same
          generalize upd H8 S (.lst (txs pool)) = H9 at sS eS ⊢
          refine ⟨S, rfl, ⟨_, sqL eS⟩, fun D nD => ?_⟩
          refine lcRungs (n := 9) (fun i => ⟨[], pool.getD i (Str.ofString "")⟩) nD (by decide) (fun i H5 h s5 => ⟨_, _, sqL (s5 _ _ eS), txs_get (nok i h).choose_spec.1⟩) (fun H5 s5 => ⟨_, sqL (s5 _ _ eS), by unfold txs; rw [List.length_map, pl]; exact Nat.le_refl _⟩) (fun i x H5 H' Qk hi s5 y hk => ?_) (fun H6 rs s6 e6 hrs => ?_)
          · obtain ⟨rfl, hx⟩ := y
            obtain ⟨z, hz, _⟩ := nok i hi
            have hx := (hx _ (sqL (s5 _ _ eS))).symm.trans (txs_get hz)
            cases hx
            refine ⟨rfl, ?_⟩
            refine ⟨Nat.zero_le _, fun q1 nq1 => ⟨.str z, rfl, by show 2 ≤ sizeLine; decide, fun R nR => ?_⟩⟩
            refine hk R _ ⟨q1, ?_, same_upd nR _ _ upd_same⟩ ((same_upd nq1).trans (same_upd nR))
            rw [upd_same, List.getD_eq_getElem?_getD, hz]
            rfl
          refine ⟨D, _, rfl, .inl ⟨sqL e6, fun l nl => ?_⟩⟩
          have sl : Same H6 (upd H6 l (.tup (rs.map V.ref))) := same_upd nl
          have s86 := (s8.trans sS).trans (s6.trans sl)
          refine ⟨_, l, (List.range 9).map fun i => ⟨[], pool.getD i (Str.ofString "")⟩, .non, .non, rfl, ⟨rs, .inr upd_same, hrs.same sl, fun g hg => ?_⟩, by rw [List.length_map, List.length_range]; decide, .inl ⟨by rw [List.length_map, List.length_range]; decide, fun D H7 s7 nD eD => ?_⟩⟩
          · obtain ⟨i, hi, rfl⟩ := List.mem_map.mp hg
            obtain ⟨z, hz, hok⟩ := nok i (List.mem_range.mp hi)
            refine ⟨?_, fun z h => absurd h (by simp), by show 0 ≤ 100; decide⟩
            show NameOk (pool.getD i _)
            rw [List.getD_eq_getElem?_getD, hz]
            exact hok
          refine ⟨by show 2 ≤ sizeLine; decide, fun U nU => ⟨.tuple [.str "many", .int 8], .tuple [.str "many", .int 8], .tup (sqT (same_upd nU _ _ eD)) (.cons (.str _) (.cons (.int _) .nil)), .tup (sqT upd_same) (.cons (.str _) (.cons (.int _) .nil)), by decide +kernel, by decide +kernel, _, rfl, ?_⟩⟩
          rw [show (!PyData.eqv (.tuple [.str "many", .int 8]) (.tuple [.str "many", .int 8])) = false by decide]

          refine iteF ?_
          have s9 := (s86.trans s7).trans (same_upd nU (o := .tup [.str "many", .int 8]))
          generalize upd H7 U (.tup [.str "many", .int 8]) = HB at s9 ⊢
          -- frame + (frame[0],)
          obtain ⟨fr, hfr, hfrs⟩ := hf
          have frl : fr.length = gs.length := hfrs.length
          obtain ⟨r0, hr0⟩ : ∃ r, fr[0]? = some r := ⟨_, List.getElem?_eq_getElem (by omega)⟩
          obtain ⟨g0, hg0, _⟩ := paired_get hfrs hr0
          have x0 : (fr.map V.ref)[0]? = some (.ref r0) := by rw [List.getElem?_map, hr0]; rfl
          refine ⟨_, rfl, .ref f, rfl, .ref f, rfl, f, _, 0, .ref r0, rfl, rfl, sqT (s9 _ _ hfr), atI_nat (j := 0) x0, by show 1 ≤ sizeLine; decide, fun B nB => ?_⟩
          refine ⟨f, B, fr.map V.ref, [.ref r0], rfl, rfl, sqT (same_upd nB _ _ (s9 _ _ hfr)), sqT upd_same, ?_, by rw [List.length_map, frl, sizeLine_eq]; show gs.length + 1 ≤ _; omega, (fun z => by cases z), fun _ A nA => ?_⟩
          · intro z
            rw [z] at x0
            simp at x0
          have sA := s9.trans ((same_upd nB (o := .tup [.ref r0])).trans (same_upd nA (o := .tup (fr.map V.ref ++ [.ref r0]))))
          have fA : Frm (upd (upd HB B (.tup [.ref r0])) A (.tup (fr.map V.ref ++ [.ref r0]))) A (gs ++ [g0]) := by
            refine ⟨fr ++ [r0], .inr ?_, ?_, fun g hg => ?_⟩
            · rw [upd_same, List.map_append]
              rfl
            · have h := hfrs.same sA
              obtain ⟨g', hg', hrg⟩ := paired_get h hr0
              rw [hg0] at hg'
              cases hg'
              exact paired_snoc h hrg
            · rcases List.mem_append.mp hg with z | z
              · exact gf.names g z
              · rw [List.mem_singleton.mp z]
                exact gf.names g0 (List.mem_of_getElem? hg0)
          have lA : (gs ++ [g0]).length = gs.length + 1 := by rw [List.length_append]; rfl
          have bA : badAt [] 0 (gs ++ [g0]) = some gs.length := by
            rw [badAt_snoc gs [] 0 gf.ok.2 (List.mem_map.mpr ⟨g0, List.mem_of_getElem? hg0, rfl⟩), Nat.zero_add]
          by_cases hn8 : gs.length = 8
          · refine ⟨_, A, gs ++ [g0], .non, .non, rfl, fA, by rw [lA]; omega, .inl ⟨by omega, fun D H7 s7 nD eD => ?_⟩⟩
            refine ⟨.int (gs.length : Nat), rfl, by show 2 ≤ sizeLine; decide, fun A1 nA1 => ⟨by show 2 ≤ sizeLine; decide, fun B1 nB1 => ⟨by show 2 ≤ sizeLine; decide, fun L1 nL1 => ?_⟩⟩⟩
            have v1 := same_upd nA1 (o := .tup [.str "frame", .int (gs.length : Nat)])
            have v2 := same_upd nB1 (o := .tup [.str "many", .int 8])
            have v3 := same_upd nL1 (o := .lst [.ref A1, .ref B1])
            have sC := (sA.trans s7).trans (v1.trans (v2.trans v3))
            have k1 := (v1.trans (v2.trans v3)) _ _ eD
            have k2 := (v2.trans v3) _ _ (upd_same (o := HO.tup [.str "frame", .int (gs.length : Nat)]))
            have k3 := v3 _ _ (upd_same (o := HO.tup [.str "many", .int 8]))
            refine ⟨.int (gs.length : Nat), rfl, rfl, .inr ⟨_, rfl, L1, _, 1, .ref B1, rfl, by rw [decide_eq_true (show V.int (gs.length : Nat) = .int 8 by rw [hn8]; rfl)]; rfl, sqL upd_same, atI_nat (j := 1) rfl, ?_⟩⟩
            refine ⟨.tuple [.str "many", .int 8], .tuple [.str "many", .int 8], .tup (sqT k1) (.cons (.str _) (.cons (.int _) .nil)), .tup (sqT k3) (.cons (.str _) (.cons (.int _) .nil)), shSI _ _ (by decide +kernel), shSI _ _ (by decide +kernel), _, rfl, ?_⟩
            rw [eqSI]
            refine iteF ?_
            generalize upd (upd (upd H7 A1 (.tup [.str "frame", .int (gs.length : Nat)])) B1 (.tup [.str "many", .int 8])) L1 (.lst [.ref A1, .ref B1]) = HC at sC ⊢
            clear k1 k2 k3 v1 v2 v3
            obtain ⟨z0, hz0, ok0⟩ := nok 0 (by decide)
            obtain ⟨z1, hz1, ok1⟩ := nok 1 (by decide)
            have a0 : atI (txs pool) 0 = some (.str z0) := atI_nat (j := 0) (txs_get hz0)
            have a1 : atI (txs pool) 1 = some (.str z1) := atI_nat (j := 1) (txs_get hz1)
            refine ⟨_, rfl, Nat.zero_le _, fun q1 nq1 => ?_⟩
            have t1 := sC.trans (same_upd nq1 (o := .tup []))
            refine ⟨.ref p, rfl, p, _, 0, .str z0, rfl, rfl, sqL (t1 _ _ hp), a0, by show 2 ≤ sizeLine; decide, fun R1 nR1 => ?_⟩
            have u2 := same_upd nR1 (o := .tup [.ref q1, .str z0])
            have t2 := t1.trans u2
            have g1 : upd (upd HC q1 (.tup [])) R1 (.tup [.ref q1, .str z0]) q1 = some (.tup []) := u2 _ _ upd_same
            have g2 : upd (upd HC q1 (.tup [])) R1 (.tup [.ref q1, .str z0]) R1 = some (.tup [.ref q1, .str z0]) := upd_same
            generalize upd (upd HC q1 (.tup [])) R1 (.tup [.ref q1, .str z0]) = HD at t2 g1 g2 ⊢
            refine ⟨.ref p, rfl, p, _, 0, .str z0, rfl, rfl, sqL (t2 _ _ hp), a0, .ref p, rfl, p, _, 0, .str z0, rfl, rfl, sqL (t2 _ _ hp), a0, by show 2 ≤ sizeLine; decide, fun q2 nq2 => ?_⟩
            have u3 := same_upd nq2 (o := .tup [.str z0, .str z0])
            refine ⟨.ref p, rfl, p, _, 1, .str z1, rfl, rfl, sqL ((t2.trans u3) _ _ hp), a1, by show 2 ≤ sizeLine; decide, fun R2 nR2 => ⟨by show 2 ≤ sizeLine; decide, fun F2 nF2 => ?_⟩⟩
            have u4 := same_upd nR2 (o := .tup [.ref q2, .str z1])
            have u5 := same_upd nF2 (o := .tup [.ref R1, .ref R2])
            have t5 := t2.trans (u3.trans (u4.trans u5))
            refine ⟨_, F2, [⟨[], z0⟩, ⟨[z0, z0], z1⟩], .non, .non, rfl, ⟨[R1, R2], .inr upd_same, .cons ⟨q1, (u3.trans (u4.trans u5)) _ _ g2, (u3.trans (u4.trans u5)) _ _ g1⟩ (.cons ⟨q2, u5 _ _ upd_same, (u4.trans u5) _ _ upd_same⟩ .nil), fun g hg => ?_⟩, by show 2 ≤ 100; decide, .inr (.inl ⟨by show 2 ≤ 8; decide, 1, ?_, fun D H7 s7 nD eD => ?_⟩)⟩
            · simp only [List.mem_cons, List.not_mem_nil, or_false] at hg
              rcases hg with e | e <;> subst e
              · exact ⟨ok0, fun z h => absurd h (by simp), by show 0 ≤ 100; decide⟩
              · refine ⟨ok1, fun z h => ?_, by show 2 ≤ 100; decide⟩
                simp at h
                rw [h]
                exact ok0
            · exact bad2 z0 z1
            refine ⟨by show 2 ≤ sizeLine; decide, fun U nU => ⟨.tuple [.str "frame", .int 1], .tuple [.str "frame", .int 1], .tup (sqT (same_upd nU _ _ eD)) (.cons (.str _) (.cons (.int _) .nil)), .tup (sqT upd_same) (.cons (.str _) (.cons (.int _) .nil)), by decide +kernel, by decide +kernel, _, rfl, ?_⟩⟩
            rw [show (!PyData.eqv (.tuple [.str "frame", .int 1]) (.tuple [.str "frame", .int 1])) = false by decide]
            exact iteF ⟨⟨_, _, _, rfl⟩, (t5.trans s7).trans (same_upd nU)⟩

          · refine ⟨_, A, gs ++ [g0], .non, .non, rfl, fA, by rw [lA]; omega, .inr (.inl ⟨by omega, gs.length, bA, fun D H7 s7 nD eD => ?_⟩)⟩
            refine ⟨.int (gs.length : Nat), rfl, by show 2 ≤ sizeLine; decide, fun A1 nA1 => ⟨by show 2 ≤ sizeLine; decide, fun B1 nB1 => ⟨by show 2 ≤ sizeLine; decide, fun L1 nL1 => ?_⟩⟩⟩
            have v1 := same_upd nA1 (o := .tup [.str "frame", .int (gs.length : Nat)])
            have v2 := same_upd nB1 (o := .tup [.str "many", .int 8])
            have v3 := same_upd nL1 (o := .lst [.ref A1, .ref B1])
            have sC := (sA.trans s7).trans (v1.trans (v2.trans v3))
            have k1 := (v1.trans (v2.trans v3)) _ _ eD
            have k2 := (v2.trans v3) _ _ (upd_same (o := HO.tup [.str "frame", .int (gs.length : Nat)]))
            have k3 := v3 _ _ (upd_same (o := HO.tup [.str "many", .int 8]))
            refine ⟨.int (gs.length : Nat), rfl, rfl, .inr ⟨_, rfl, L1, _, 0, .ref A1, rfl, by rw [decide_eq_false (show ¬ V.int (gs.length : Nat) = .int 8 from fun z => hn8 (by have := V.int.inj z; omega))]; rfl, sqL upd_same, atI_nat (j := 0) rfl, ?_⟩⟩
            refine ⟨.tuple [.str "frame", .int (gs.length : Nat)], .tuple [.str "frame", .int (gs.length : Nat)], .tup (sqT k1) (.cons (.str _) (.cons (.int _) .nil)), .tup (sqT k2) (.cons (.str _) (.cons (.int _) .nil)), shSI _ _ (by decide +kernel), shSI _ _ (by decide +kernel), _, rfl, ?_⟩
            rw [eqSI]
            refine iteF ?_
            generalize upd (upd (upd H7 A1 (.tup [.str "frame", .int (gs.length : Nat)])) B1 (.tup [.str "many", .int 8])) L1 (.lst [.ref A1, .ref B1]) = HC at sC ⊢
            clear k1 k2 k3 v1 v2 v3
            obtain ⟨z0, hz0, ok0⟩ := nok 0 (by decide)
            obtain ⟨z1, hz1, ok1⟩ := nok 1 (by decide)
            have a0 : atI (txs pool) 0 = some (.str z0) := atI_nat (j := 0) (txs_get hz0)
            have a1 : atI (txs pool) 1 = some (.str z1) := atI_nat (j := 1) (txs_get hz1)
            refine ⟨_, rfl, Nat.zero_le _, fun q1 nq1 => ?_⟩
            have t1 := sC.trans (same_upd nq1 (o := .tup []))
            refine ⟨.ref p, rfl, p, _, 0, .str z0, rfl, rfl, sqL (t1 _ _ hp), a0, by show 2 ≤ sizeLine; decide, fun R1 nR1 => ?_⟩
            have u2 := same_upd nR1 (o := .tup [.ref q1, .str z0])
            have t2 := t1.trans u2
            have g1 : upd (upd HC q1 (.tup [])) R1 (.tup [.ref q1, .str z0]) q1 = some (.tup []) := u2 _ _ upd_same
            have g2 : upd (upd HC q1 (.tup [])) R1 (.tup [.ref q1, .str z0]) R1 = some (.tup [.ref q1, .str z0]) := upd_same
            generalize upd (upd HC q1 (.tup [])) R1 (.tup [.ref q1, .str z0]) = HD at t2 g1 g2 ⊢
            refine ⟨.ref p, rfl, p, _, 0, .str z0, rfl, rfl, sqL (t2 _ _ hp), a0, .ref p, rfl, p, _, 0, .str z0, rfl, rfl, sqL (t2 _ _ hp), a0, by show 2 ≤ sizeLine; decide, fun q2 nq2 => ?_⟩
            have u3 := same_upd nq2 (o := .tup [.str z0, .str z0])
            refine ⟨.ref p, rfl, p, _, 1, .str z1, rfl, rfl, sqL ((t2.trans u3) _ _ hp), a1, by show 2 ≤ sizeLine; decide, fun R2 nR2 => ⟨by show 2 ≤ sizeLine; decide, fun F2 nF2 => ?_⟩⟩
            have u4 := same_upd nR2 (o := .tup [.ref q2, .str z1])
            have u5 := same_upd nF2 (o := .tup [.ref R1, .ref R2])
            have t5 := t2.trans (u3.trans (u4.trans u5))
            refine ⟨_, F2, [⟨[], z0⟩, ⟨[z0, z0], z1⟩], .non, .non, rfl, ⟨[R1, R2], .inr upd_same, .cons ⟨q1, (u3.trans (u4.trans u5)) _ _ g2, (u3.trans (u4.trans u5)) _ _ g1⟩ (.cons ⟨q2, u5 _ _ upd_same, (u4.trans u5) _ _ upd_same⟩ .nil), fun g hg => ?_⟩, by show 2 ≤ 100; decide, .inr (.inl ⟨by show 2 ≤ 8; decide, 1, ?_, fun D H7 s7 nD eD => ?_⟩)⟩
            · simp only [List.mem_cons, List.not_mem_nil, or_false] at hg
              rcases hg with e | e <;> subst e
              · exact ⟨ok0, fun z h => absurd h (by simp), by show 0 ≤ 100; decide⟩
              · refine ⟨ok1, fun z h => ?_, by show 2 ≤ 100; decide⟩
                simp at h
                rw [h]
                exact ok0
            · exact bad2 z0 z1
            refine ⟨by show 2 ≤ sizeLine; decide, fun U nU => ⟨.tuple [.str "frame", .int 1], .tuple [.str "frame", .int 1], .tup (sqT (same_upd nU _ _ eD)) (.cons (.str _) (.cons (.int _) .nil)), .tup (sqT upd_same) (.cons (.str _) (.cons (.int _) .nil)), by decide +kernel, by decide +kernel, _, rfl, ?_⟩⟩
            rw [show (!PyData.eqv (.tuple [.str "frame", .int 1]) (.tuple [.str "frame", .int 1])) = false by decide]
            exact iteF ⟨⟨_, _, _, rfl⟩, (t5.trans s7).trans (same_upd nU)⟩

        · rintro σ H8 ⟨⟨c4, c5, c6, rfl⟩, s8⟩
          exact q H8 s8
end
end K7

set_option maxRecDepth 100000
set_option maxHeartbeats 4000000
namespace K7
open PySem PySem.Spec PyProof.Rows L2 GX NdefX
/-! ### law -/
/-- the law's own defs -/
structure Lw (K : PySem.W.Frag) (mg : Str → Option Value) where
  a0 : Addr
  b0 : FuncData
  N : Fun K "_law_numbers" "_law_numbers" sLNums a0 b0
  bN : Binds K b0 ["script"] []
  gN : mg "_law_numbers" = some (.ref a0)
  a1 : Addr
  b1 : FuncData
  D : Fun K "_law_draw" "_law_draw" sLDraw a1 b1
  bD : Binds K b1 ["numbers", "many"] []
  gD : mg "_law_draw" = some (.ref a1)
  a2 : Addr
  b2 : FuncData
  I : Fun K "_law_int" "_law_int" sLInt a2 b2
  bI : Binds K b2 ["value"] []
  gI : mg "_law_int" = some (.ref a2)
  a3 : Addr
  b3 : FuncData
  Po : Fun K "_law_pool" "_law_pool" sLPool a3 b3
  bPo : Binds K b3 ["numbers", "total"] []
  gPo : mg "_law_pool" = some (.ref a3)
  a4 : Addr
  b4 : FuncData
  Fr : Fun K "_law_frame" "_law_frame" sLFrame a4 b4
  bFr : Binds K b4 ["numbers", "pool", "many"] []
  gFr : mg "_law_frame" = some (.ref a4)
  a5 : Addr
  b5 : FuncData
  To : Fun K "_law_touch" "_law_touch" sLTouch a5 b5
  bTo : Binds K b5 ["frame", "low", "high"] []
  gTo : mg "_law_touch" = some (.ref a5)
  a6 : Addr
  b6 : FuncData
  Or : Fun K "_law_order" "_law_order" sLOrder a6 b6
  bOr : Binds K b6 ["numbers", "many"] []
  gOr : mg "_law_order" = some (.ref a6)
  a7 : Addr
  b7 : FuncData
  Le : Fun K "_law_led" "_law_led" sLLed a7 b7
  bLe : Binds K b7 ["numbers", "frame", "order"] []
  gLe : mg "_law_led" = some (.ref a7)
  a8 : Addr
  b8 : FuncData
  U : Fun K "_law_unlike" "_law_unlike" sLUnlike a8 b8
  bU : Binds K b8 ["order", "other"] []
  gU : mg "_law_unlike" = some (.ref a8)
  a9 : Addr
  b9 : FuncData
  Di : Fun K "_law_directions" "_law_directions" sLDirs a9 b9
  bDi : Binds K b9 ["frame", "order"] []
  gDi : mg "_law_directions" = some (.ref a9)
  aA : Addr
  bA : FuncData
  R : Fun K "_law_swaps_right" "_law_swaps_right" sLRight aA bA
  bR : Binds K bA ["frame", "order", "other"] []
  gR : mg "_law_swaps_right" = some (.ref aA)
  aB : Addr
  bB : FuncData
  W : Fun K "_law_word" "_law_word" sLWord aB bB
  bW : Binds K bB ["turn", "frame", "order", "other"] []
  gW : mg "_law_word" = some (.ref aB)
  aC : Addr
  bC : FuncData
  Re : Fun K "_law_refused" "_law_refused" sLRefused aC bC
  bRe : Binds K bC ["pool", "frame", "order"] []
  gRe : mg "_law_refused" = some (.ref aC)
def spLaw (K : PySem.W.Frag) : Sp := fun vs H Q _ => ∃ (a : Addr) (ns : List Int), vs = [.ref a] ∧ SqL K H a (ns.map V.int) ∧ ns.length ≤ 63 ∧ ∀ H', Q (.bl true) H'
theorem half : ∀ n : Nat, n < 9 → ((n : Int) * ((n : Int) - 1)).fdiv 2 = ((n * (n - 1) / 2 : Nat) : Int) := by decide
theorem dirs_nil : dirs [] [] = [] := sortP_eq (l := []) (m := []) (List.Perm.refl _) List.Pairwise.nil ▸ rfl
theorem frOk_nil : FrOk [] := ⟨by decide, rfl⟩
theorem nts_rev (l : List Nat) : (nts l).reverse = nts l.reverse := by
  unfold nts
  rw [List.map_reverse]
section
variable {P : Program} {w : World} {K : PySem.W.Frag} {mg : Str → Option Value} {base : Heap}
theorem ok_law (G : Pg P K mg) (T : Xt K mg G.X.CB G.X.CN G.X.CM) (M : Lw K mg) {f : Addr} {fd : FuncData} (F : Fun K "law" "law" sLaw f fd) : FnOk P w K mg base (CX P w) 8 f fd ["script"] (spLaw K) := by
  have HN : FnOk P w K mg base CX0 1 M.a0 M.b0 ["script"] (spLNums K) := ok_lnums M.N G.B
  have HD : FnOk P w K mg base CX0 1 M.a1 M.b1 ["numbers", "many"] spDraw := ok_draw M.D G.B
  have HP : FnOk P w K mg base CX0 2 M.a3 M.b3 ["numbers", "total"] spPool := ok_pool M.Po G.B M.D M.bD M.gD
  have HF : FnOk P w K mg base CX0 2 M.a4 M.b4 ["numbers", "pool", "many"] spLFrame := ok_lframe M.Fr G.B M.D M.bD M.gD
  have HO : FnOk P w K mg base CX0 2 M.a6 M.b6 ["numbers", "many"] spLOrder := ok_lorder M.Or G.B M.D M.bD M.gD
  have HL : FnOk P w K mg base CX0 2 M.a7 M.b7 ["numbers", "frame", "order"] spLed := ok_led M.Le G.B M.D M.bD M.gD M.To M.bTo M.gTo
  have HU : FnOk P w K mg base CX0 1 M.a8 M.b8 ["order", "other"] spUnlike := ok_unlike M.U G.B
  have HI : FnOk P w K mg base CX0 2 M.a9 M.b9 ["frame", "order"] spLDirs := ok_ldirs M.Di G.B M.To M.bTo M.gTo
  have HR : FnOk P w K mg base (CX P w) 6 M.aA M.bA ["frame", "order", "other"] spRight := ok_right G M.R M.I M.bI M.gI M.U M.bU M.gU M.To M.bTo M.gTo
  have HE : FnOk P w K mg base CX0 7 M.aC M.bC ["pool", "frame", "order"] spRefused := ok_refused G T M.Re M.W M.bW M.gW
  have GD : FnOk P w K mg base (CX P w) 4 G.f6 G.d6 ["frame", "order"] (spDirections G.X.CB G.X.CN G.X.CM) := ok_directions G
  have GA : FnOk P w K mg base (CX P w) 5 G.f7 G.d7 ["frame", "order", "other"] (spSame G.X.CB G.X.CN G.X.CM) := ok_same G
  have GS : FnOk P w K mg base (CX P w) 5 G.f8 G.d8 ["frame", "order", "other"] (spSwaps G.X.CB G.X.CN G.X.CM) := ok_swaps G
  refine F.okX scLaw (fun vs H Q E h => ?_) (fun cdv A outer s H vs Q E hr h => ?_)
  · obtain ⟨a, ns, rfl, _⟩ := h
    rfl
  · obtain ⟨a, ns, rfl, hq, hl, q⟩ := h
    have r1 := hr.mono (show 1 ≤ 7 by decide)
    have r2 := hr.mono (show 2 ≤ 7 by decide)
    have r4 := hr.mono (show 4 ≤ 7 by decide)
    have r5 := hr.mono (show 5 ≤ 7 by decide)
    have r6 := hr.mono (show 6 ≤ 7 by decide)
    refine ⟨_, pss_cons (ps_set (i := 1) scLaw.nd rfl (.inl rfl) (pe_call HN r1 (by rfl) M.gN M.N.kp M.bN .nil pass0 (pa_cons (pv 0) pa_nil)))
      (pss_cons (ps_set (i := 2) scLaw.nd rfl (.inl rfl) (pe_call HP r2 (by rfl) M.gPo M.Po.kp M.bPo .nil pass0 (pa_cons (pv 1) (pa_cons pe_int pa_nil))))
      (pss_cons (ps_set (i := 3) scLaw.nd rfl (.inl rfl) (pe_op op_add pe_int (pe_call HD r1 (by rfl) M.gD M.D.kp M.bD .nil pass0 (pa_cons (pv 1) (pa_cons pe_int pa_nil)))))
      (pss_cons (ps_if (pt_cmpR op_eq (pe_call HD r1 (by rfl) M.gD M.D.kp M.bD .nil pass0 (pa_cons (pv 1) (pa_cons pe_int pa_nil))) pe_int (nomark _)) (pss_one (ps_set (i := 3) scLaw.nd rfl (.inl rfl) pe_int)) pss_nil)
      (pss_cons (ps_set (i := 4) scLaw.nd rfl (.inl rfl) (pe_call HF r2 (by rfl) M.gFr M.Fr.kp M.bFr .nil pass0 (pa_cons (pv 1) (pa_cons (pv 2) (pa_cons (pv 3) pa_nil)))))
      (pss_cons (ps_set (i := 5) scLaw.nd rfl (.inl rfl) (pe_call HO r2 (by rfl) M.gOr M.Or.kp M.bOr .nil pass0 (pa_cons (pv 1) (pa_cons (pv 3) pa_nil))))
      (pss_cons (ps_set (i := 6) scLaw.nd rfl (.inl rfl) (pe_call HL r2 (by rfl) M.gLe M.Le.kp M.bLe .nil pass0 (pa_cons (pv 1) (pa_cons (pv 4) (pa_cons (pv 5) pa_nil)))))
      (pss_cons (ps_set (i := 7) scLaw.nd rfl (.inl rfl) (pe_call HO r2 (by rfl) M.gOr M.Or.kp M.bOr .nil pass0 (pa_cons (pv 1) (pa_cons (pv 3) pa_nil))))
      (pss_cons (ps_set (i := 8) scLaw.nd rfl (.inl rfl) (pe_callTy call_list_of (by rfl) G.B.list (by decide +kernel) (pa_cons (pv 5) pa_nil)))
      (pss_cons (ps_expr (pe_bm0 PySem.F.plainAttrs_list PySem.F.slot_list_reverse PySem.F.type_list_reverse mt_reverse (pv 8)))
      (pss_cons (ps_for (by passes_own) rfl (pi_list (pe_lst (pa_cons (pv 6) (pa_cons (pv 7) (pa_cons (pv 8) (pa_cons (pe_callTy call_list_of (by rfl) G.B.list (by decide +kernel) (pa_cons (pv 5) pa_nil)) pa_nil)))))) (pg_name (i := 9) scLaw.nd rfl (.inl rfl))
        (pss_cons (ps_if (PW.pt (pw_or (pt_not (pt_val (pe_call HR r6 (by rfl) M.gR M.R.kp M.bR .nil (passes_call (takes_of rfl rfl rfl rfl) (fun _ _ _ _ h => h)) (pa_cons (pv 4) (pa_cons (pv 5) (pa_cons (pv 9) pa_nil))))))
          (pw_or1 (pt_not (pt_val (pe_call HR r6 (by rfl) M.gR M.R.kp M.bR .nil (passes_call (takes_of rfl rfl rfl rfl) (fun _ _ _ _ h => h)) (pa_cons (pv 4) (pa_cons (pv 9) (pa_cons (pv 5) pa_nil))))))))) (pss_one (ps_ret pe_bl)) pss_nil)
        (pss_cons (ps_set (i := 10) scLaw.nd rfl (.inl rfl) (pe_call GD r4 (by rfl) G.g6 G.O6.kp G.b6 .nil (passes_call (takes_of rfl rfl rfl rfl) (fun _ _ _ _ h => h)) (pa_cons (pv 4) (pa_cons (pv 5) pa_nil))))
        (pss_cons (ps_set (i := 11) scLaw.nd rfl (.inl rfl) (pe_call GD r4 (by rfl) G.g6 G.O6.kp G.b6 .nil (passes_call (takes_of rfl rfl rfl rfl) (fun _ _ _ _ h => h)) (pa_cons (pv 4) (pa_cons (pe_callTy call_tuple_of (by rfl) G.B.tuple (by decide +kernel) (pa_cons (pv 9) pa_nil)) pa_nil))))
        (pss_cons (ps_if (PW.pt (pw_or (pt_not (pt_val (pe_callB call_isi (by rfl) G.B.isi (by decide +kernel) (pa_cons (pv 10) (pa_cons (pe_bltn (v := .ty "tuple") (u := .type "tuple") (by rfl) G.B.tuple (by decide +kernel) rfl) pa_nil)))))
          (pw_or1 (pt_cmpR (op_neD hr.units) (pv 10) (pe_call HI r2 (by rfl) M.gDi M.Di.kp M.bDi .nil pass0 (pa_cons (pv 4) (pa_cons (pv 5) pa_nil))) (nomark _))))) (pss_one (ps_ret pe_bl)) pss_nil)
        (pss_one (ps_if (PW.pt (pw_or (pt_cmpR (op_neD hr.units) (pv 11) (pe_call HI r2 (by rfl) M.gDi M.Di.kp M.bDi .nil pass0 (pa_cons (pv 4) (pa_cons (pv 9) pa_nil))) (nomark _))
          (pw_or1 (pt_cmpR op_ne (pe_cmpR (op_eqD hr.units) (pv 10) (pv 11) (nomark _)) (pe_call GA r5 (by rfl) G.g7 G.O7.kp G.b7 .nil (passes_call (takes_of rfl rfl rfl rfl) (fun _ _ _ _ h => h)) (pa_cons (pv 4) (pa_cons (pv 5) (pa_cons (pv 9) pa_nil)))) (nomark _))))) (pss_one (ps_ret pe_bl)) pss_nil)))))))
      (pss_cons (ps_if (PW.pt (pw_or (pt_cmpR (op_neD hr.units) (pe_call GD r4 (by rfl) G.g6 G.O6.kp G.b6 .nil (passes_call (takes_of rfl rfl rfl rfl) (fun _ _ _ _ h => h)) (pa_cons (pe_tup pa_nil) (pa_cons (pe_tup pa_nil) pa_nil))) (pe_tup pa_nil) (nomark _))
        (pw_or (pt_cmpR (op_neD hr.units) (pe_call GS r5 (by rfl) G.g8 G.O8.kp G.b8 .nil (passes_call (takes_of rfl rfl rfl rfl) (fun _ _ _ _ h => h)) (pa_cons (pe_tup pa_nil) (pa_cons (pe_tup pa_nil) (pa_cons (pe_lst pa_nil) pa_nil)))) (pe_tup pa_nil) (nomark _))
        (pw_or1 (pt_cmpR op_isnot_bl (pe_call GA r5 (by rfl) G.g7 G.O7.kp G.b7 .nil (passes_call (takes_of rfl rfl rfl rfl) (fun _ _ _ _ h => h)) (pa_cons (pe_lst pa_nil) (pa_cons (pe_lst pa_nil) (pa_cons (pe_tup pa_nil) pa_nil)))) pe_bl (nomark _)))))) (pss_one (ps_ret pe_bl)) pss_nil)
      (pss_cons (ps_if (PW.pt (pw_or (pt_cmpR op_isN (pe_call GS r5 (by rfl) G.g8 G.O8.kp G.b8 .nil (passes_call (takes_of rfl rfl rfl rfl) (fun _ _ _ _ h => h)) (pa_cons (pv 4) (pa_cons (pv 5) (pa_cons (pv 6) pa_nil)))) pe_non (nomark _))
        (pw_or1 (pt_cmpR op_ne (pe_callB call_len (by rfl) G.B.len PySem.boot_len (pa_cons (pe_call HU r1 (by rfl) M.gU M.U.kp M.bU .nil pass0 (pa_cons (pv 5) (pa_cons (pv 8) pa_nil))) pa_nil)) (pe_op op_fdivN (pe_mul (pv 3) (pe_op op_sub (pv 3) pe_int)) pe_int) (nomark _))))) (pss_one (ps_ret pe_bl)) pss_nil)
      (pss_one (ps_ret (pe_call HE hr (by rfl) M.gRe M.Re.kp M.bRe .nil pass0 (pa_cons (pv 2) (pa_cons (pv 4) (pa_cons (pv 5) pa_nil)))))))))))))))))), ?_⟩
    refine ⟨.ref a, rfl, a, ns, rfl, hq, hl, fun N H1 nl s1 nN eN hnl => ?_⟩
    have n1 : NumsAt H1 N := ⟨nl, eN, hnl⟩
    refine ⟨.ref N, rfl, N, rfl, n1, fun Po H2 pool hpool s2 n2 nP eP => ?_⟩
    have hNP : N ≠ Po := (nums_ne n1 nP).symm
    refine ⟨.ref N, rfl, N, 6, rfl, by decide, n2, fun H3 r hr6 s3 n3 => ?_⟩
    have p3 := s3 _ _ hNP.symm eP
    refine ⟨_, _, rfl, rfl, ?_⟩
    refine ⟨.ref N, rfl, N, 6, rfl, by decide, n3, fun H4 r' hr6' s4 n4 => ?_⟩
    have p4 := s4 _ _ hNP.symm p3
    refine ⟨rfl, _, rfl, ?_⟩
    by_cases h5 : r' = 5
    · rw [decide_eq_true (by rw [h5]; rfl)]
      refine iteT ?_
      have mle : 8 ≤ 8 := Nat.le_refl _
      refine ⟨.ref N, rfl, .ref Po, rfl, .int (8 : Nat), rfl, N, Po, 8, pool, rfl, mle, n4, hNP, p4, hpool.1, pool_nodup (by decide) hpool, fun Fa H5 gs hgs s5 n5 nF f5 => ?_⟩
      have gf := frame_good hpool mle hgs
      have gl : gs.length = 8 := hgs.len
      have h8 := gf.ok.1
      have p5 := s5 _ _ hNP.symm p4
      -- order
      refine ⟨.ref N, rfl, .int (8 : Nat), rfl, N, 8, rfl, by omega, n5, fun O H6 os po s6 n6 nO eO => ?_⟩
      have f6 := f5.keep (keepT_b s6 n5)
      have p6 := s6 _ _ hNP.symm p5
      have hON : O ≠ N := fun z => by
        obtain ⟨l, e, _⟩ := n5
        rw [z, e] at nO
        cases nO
      rw [← gl] at po
      -- led
      refine ⟨.ref N, rfl, .ref Fa, rfl, .ref O, rfl, N, Fa, O, gs, os, rfl, n6, f6, hON.symm, eO, po, h8, fun Le H7 ls hled s7 n7 nL eL => ?_⟩
      have f7 := f6.keep (keepT_b s7 n6)
      have p7 := s7 _ _ hNP.symm p6
      have o7 := s7 _ _ hON eO
      have hLN : Le ≠ N := nums_ne n6 nL
      have pls := hled.perm.trans po
      -- drawn
      refine ⟨.ref N, rfl, .int (8 : Nat), rfl, N, 8, rfl, by omega, n7, fun Dr H8 ds pd s8 n8 nD eD => ?_⟩
      have f8 := f7.keep (keepT_b s8 n7)
      have p8 := s8 _ _ hNP.symm p7
      have o8 := s8 _ _ hON o7
      have l8 := s8 _ _ hLN eL
      rw [← gl] at pd
      -- around
      refine ⟨.ref O, rfl, O, _, rfl, .inl (sqL o8), fun Ar nA => ?_⟩
      refine ⟨.ref Ar, rfl, .inl ⟨rfl, _, sqL upd_same⟩, Ar, _, rfl, rfl, upd_same, ?_⟩
      rw [nts_rev]
      have sR : Same H8 (upd (upd H8 Ar (.lst (nts os))) Ar (.lst (nts os.reverse))) := fun b x e => by
        rw [upd_ne (ne_of_none e nA), upd_ne (ne_of_none e nA)]
        exact e
      have eR : upd (upd H8 Ar (.lst (nts os))) Ar (.lst (nts os.reverse)) Ar = some (.lst (nts os.reverse)) := upd_same
      generalize upd (upd H8 Ar (.lst (nts os))) Ar (.lst (nts os.reverse)) = H9 at sR eR ⊢
      -- [led, drawn, around, list(order)]
      refine ⟨.ref Le, rfl, .ref Dr, rfl, .ref Ar, rfl, .ref O, rfl, O, _, rfl, .inl (sqL (sR _ _ o8)), fun Oc nOc => ⟨by show 4 ≤ sizeLine; decide, fun X nX => ⟨X, rfl, ⟨_, sqL upd_same⟩, ?_⟩⟩⟩
      have sX : Same H9 (upd (upd H9 Oc (.lst (nts os))) X (.lst [.ref Le, .ref Dr, .ref Ar, .ref Oc])) := (same_upd nOc).trans (same_upd nX)
      have eX : upd (upd H9 Oc (.lst (nts os))) X (.lst [.ref Le, .ref Dr, .ref Ar, .ref Oc]) X = some (.lst [.ref Le, .ref Dr, .ref Ar, .ref Oc]) := upd_same
      have eOc : upd (upd H9 Oc (.lst (nts os))) X (.lst [.ref Le, .ref Dr, .ref Ar, .ref Oc]) Oc = some (.lst (nts os)) := same_upd nX _ _ upd_same
      generalize upd (upd H9 Oc (.lst (nts os))) X (.lst [.ref Le, .ref Dr, .ref Ar, .ref Oc]) = HX at sX eX eOc ⊢
      have sRX := sR.trans sX
      have fX := f8.same sRX
      have pX := sRX _ _ p8
      have oX := sRX _ _ o8
      have lX := sRX _ _ l8
      have aX := sX _ _ eR
      have oth : ∀ x ∈ ([.ref Le, .ref Dr, .ref Ar, .ref Oc] : List V), ∃ (t : Addr) (ms : List Nat), x = .ref t ∧ HX t = some (.lst (nts ms)) ∧ ms.Perm (List.range gs.length) := by
        intro x hx
        simp only [List.mem_cons, List.not_mem_nil, or_false] at hx
        rcases hx with e | e | e | e <;> subst e
        · exact ⟨Le, ls, rfl, lX, pls⟩
        · exact ⟨Dr, ds, rfl, sRX _ _ eD, pd⟩
        · exact ⟨Ar, os.reverse, rfl, aX, (List.reverse_perm os).trans po⟩
        · exact ⟨Oc, os, rfl, eOc, po⟩
      have frm : ∀ H', Same HX H' → Frm H' Fa gs := fun H' s' => frm_of (fX.same s') gf
      have hl100 : gs.length ≤ 100 := by omega
      refine for_list (K := K) (xs := [.ref Le, .ref Dr, .ref Ar, .ref Oc]) (D := { nx := _, rt := Q }) (fun i σ H' => (∃ c9 c10 c11, σ = [some (.ref a), some (.ref N), some (.ref Po), some (.int (8 : Nat)), some (.ref Fa), some (.ref O), some (.ref Le), some (.ref Dr), some (.ref Ar), c9, c10, c11]) ∧ Same HX H') ?_ ?_ ?_ ?_
      · exact ⟨⟨_, _, _, rfl⟩, Same.refl _⟩
      · exact fun i σ H' _ h => sqL (h.2 _ _ eX)
      · rintro i x σ HY hx ⟨⟨c9, c10, c11, rfl⟩, sY⟩
        obtain ⟨t, ms, rfl, et, pm⟩ := oth x (List.mem_of_getElem? hx)
        refine ⟨.ref Fa, rfl, .ref O, rfl, .ref t, rfl, Fa, O, t, gs, os, ms, rfl, fX.same sY, gf, sY _ _ oX, sY _ _ et, po, pm, fun HA sA => ⟨true, rfl, iteF ?_⟩⟩
        have sYA := sY.trans sA
        refine ⟨.ref Fa, rfl, .ref t, rfl, .ref O, rfl, Fa, t, O, gs, ms, os, rfl, fX.same sYA, gf, sYA _ _ et, sYA _ _ oX, pm, po, fun HB sB => ⟨true, rfl, iteF ?_⟩⟩
        have sYB := sYA.trans sB
        -- first, second
        refine ⟨.ref Fa, rfl, .ref O, rfl, Fa, gs, .ref O, rfl, frm _ sYB, hl100, .inr ⟨gf.ok, .inr ⟨os, ⟨O, rfl, .inl (sYB _ _ oX), po⟩, fun D1 HC t1 sC nD1 eD1 pt1 => ?_⟩⟩⟩
        have sYC := sYB.trans sC
        refine ⟨.ref Fa, rfl, .ref t, rfl, t, _, rfl, .inl ⟨sqL (sYC _ _ et), fun T2 nT2 => ?_⟩⟩
        have sT2 := same_upd nT2 (o := .tup (nts ms))
        refine ⟨Fa, gs, .ref T2, rfl, frm _ (sYC.trans sT2), hl100, .inr ⟨gf.ok, .inr ⟨ms, ⟨T2, rfl, .inr upd_same, pm⟩, fun D2 HD t2 sD nD2 eD2 pt2 => ?_⟩⟩⟩
        have sCD := sT2.trans sD
        have sYD := sYC.trans sCD
        have eD1' := sCD _ _ eD1
        have pt1' := pt1.same sCD
        -- not isinstance(first, tuple) or first != ..
        refine ⟨_, rfl, _, _, .type "tuple", _, true, rfl, .ty "tuple", .base (.tup eD1'), kit_ty (by decide +kernel), true, rfl, iteF ?_⟩
        refine ⟨.ref D1, rfl, .ref Fa, rfl, .ref O, rfl, Fa, O, gs, os, rfl, h8, fX.same sYD, sYD _ _ oX, po, fun D3 HE t3 sE nD3 eD3 pt3 => ?_⟩
        have sYE := sYD.trans sE
        refine ⟨.tuple ((dirs gs os).map pdP), .tuple ((dirs gs os).map pdP), .tup (sqT (sE _ _ eD1')) (dpPairs (pt1'.same sE)), .tup (sqT eD3) (dpPairs pt3), shPairs _, shPairs _, _, rfl, ?_⟩
        rw [eqvTP, decide_eq_true rfl]
        refine iteF ?_
        -- second != .. or (first == second) != same_for_all(..)
        refine ⟨.ref D2, rfl, .ref Fa, rfl, .ref t, rfl, Fa, t, gs, ms, rfl, h8, fX.same sYE, sYE _ _ et, pm, fun D4 HF' t4 sF nD4 eD4 pt4 => ?_⟩
        have sYF := sYE.trans sF
        have sEF := sE.trans sF
        refine ⟨.tuple ((dirs gs ms).map pdP), .tuple ((dirs gs ms).map pdP), .tup (sqT (sEF _ _ eD2)) (dpPairs (pt2.same sEF)), .tup (sqT eD4) (dpPairs pt4), shPairs _, shPairs _, _, rfl, ?_⟩
        rw [eqvTP, decide_eq_true rfl]
        refine iteF ⟨.ref D1, rfl, .ref D2, rfl, .tuple ((dirs gs os).map pdP), .tuple ((dirs gs ms).map pdP), .tup (sqT (sEF _ _ eD1')) (dpPairs (pt1'.same sEF)), .tup (sqT (sEF _ _ eD2)) (dpPairs (pt2.same sEF)), shPairs _, shPairs _, ?_⟩
        rw [eqvTP]
        refine ⟨.ref Fa, rfl, .ref O, rfl, .ref t, rfl, Fa, gs, .ref O, .ref t, rfl, frm _ sYF, hl100, .inr ⟨gf.ok, .inr (.inr ⟨os, ms, ⟨O, rfl, .inl (sYF _ _ oX), po⟩, ⟨t, rfl, .inl (sYF _ _ et), pm⟩, fun HG sG => ?_⟩)⟩⟩
        refine ⟨rfl, _, rfl, ?_⟩
        rw [decide_eq_true rfl]
        exact iteF ⟨⟨_, _, _, rfl⟩, sYF.trans sG⟩
      · rintro σ HY ⟨⟨c9, c10, c11, rfl⟩, sY⟩
        -- directions((), ()) != ()
        refine ⟨Nat.zero_le _, fun E1 nE1 => ⟨Nat.zero_le _, fun E2 nE2 => ?_⟩⟩
        have v1 := same_upd nE1 (o := .tup [])
        have v2 := same_upd nE2 (o := .tup [])
        refine ⟨E1, [], .ref E2, rfl, ⟨[], .inr (v2 _ _ upd_same), .nil, fun g hg => absurd hg (by simp)⟩, by decide, .inr ⟨frOk_nil, .inr ⟨[], ⟨E2, rfl, .inr upd_same, List.Perm.refl _⟩, fun D1 HA t1 sA nD1 eD1 pt1 => ?_⟩⟩⟩
        refine ⟨Nat.zero_le _, fun E3 nE3 => ?_⟩
        have v3 := same_upd nE3 (o := .tup [])
        refine ⟨.tuple ((dirs [] []).map pdP), .tuple (([] : List (Nat × Nat)).map pdP), .tup (sqT (v3 _ _ eD1)) (dpPairs (pt1.same v3)), .tup (sqT upd_same) .nil, shPairs _, shPairs _, _, rfl, ?_⟩
        rw [eqvTP, decide_eq_true dirs_nil]
        refine iteF ?_
        have sZ := sY.trans (v1.trans (v2.trans (sA.trans v3)))
        generalize upd HA E3 (.tup []) = HZ at sZ ⊢
        -- swaps((), (), []) != ()
        refine ⟨Nat.zero_le _, fun E1 nE1 => ⟨Nat.zero_le _, fun E2 nE2 => ⟨Nat.zero_le _, fun E3 nE3 => ?_⟩⟩⟩
        have v1 := same_upd nE1 (o := .tup [])
        have v2 := same_upd nE2 (o := .tup [])
        have v3 := same_upd nE3 (o := .lst [])
        refine ⟨E1, [], .ref E2, .ref E3, rfl, ⟨[], .inr ((v2.trans v3) _ _ upd_same), .nil, fun g hg => absurd hg (by simp)⟩, by decide, .inr ⟨frOk_nil, .inr (.inr ⟨[], [], ⟨E2, rfl, .inr (v3 _ _ upd_same), List.Perm.refl _⟩, ⟨E3, rfl, .inl upd_same, List.Perm.refl _⟩, .inr ⟨rfl, fun D1 HA sA nD1 eD1 => ?_⟩⟩)⟩⟩
        refine ⟨Nat.zero_le _, fun E4 nE4 => ?_⟩
        have v4 := same_upd nE4 (o := .tup [])
        refine ⟨.tuple (([] : List (Nat × Nat)).map pdP), .tuple (([] : List (Nat × Nat)).map pdP), .tup (sqT (v4 _ _ eD1)) .nil, .tup (sqT upd_same) .nil, shPairs _, shPairs _, _, rfl, ?_⟩
        rw [eqvTP, decide_eq_true rfl]
        refine iteF ?_
        have sZ := sZ.trans (v1.trans (v2.trans (v3.trans (sA.trans v4))))
        generalize upd HA E4 (.tup []) = HZ at sZ ⊢
        -- same_for_all([], [], ()) is not True
        refine ⟨Nat.zero_le _, fun E1 nE1 => ⟨Nat.zero_le _, fun E2 nE2 => ⟨Nat.zero_le _, fun E3 nE3 => ?_⟩⟩⟩
        have v1 := same_upd nE1 (o := .lst [])
        have v2 := same_upd nE2 (o := .lst [])
        have v3 := same_upd nE3 (o := .tup [])
        refine ⟨E1, [], .ref E2, .ref E3, rfl, ⟨[], .inl ((v2.trans v3) _ _ upd_same), .nil, fun g hg => absurd hg (by simp)⟩, by decide, .inr ⟨frOk_nil, .inr (.inr ⟨[], [], ⟨E2, rfl, .inl (v3 _ _ upd_same), List.Perm.refl _⟩, ⟨E3, rfl, .inr upd_same, List.Perm.refl _⟩, fun HA sA => ?_⟩)⟩⟩
        rw [decide_eq_true rfl]
        refine ⟨true, true, rfl, rfl, _, rfl, ?_⟩
        rw [decide_eq_true rfl]
        refine iteF ?_
        have sZ := sZ.trans (v1.trans (v2.trans (v3.trans sA)))
        -- swaps(frame, order, led) is None or ..
        refine ⟨.ref Fa, rfl, .ref O, rfl, .ref Le, rfl, Fa, gs, .ref O, .ref Le, rfl, frm _ sZ, hl100, .inr ⟨gf.ok, .inr (.inr ⟨os, ls, ⟨O, rfl, .inl (sZ _ _ oX), po⟩, ⟨Le, rfl, .inl (sZ _ _ lX), pls⟩, .inr ⟨dirs_agree.mpr (led_agree po hled), fun D1 HB sB nD1 eD1 => ?_⟩⟩)⟩⟩
        refine ⟨rfl, _, rfl, ?_⟩
        rw [decide_eq_false (by intro z; cases z)]
        refine iteF ?_
        have sZ := sZ.trans sB
        refine ⟨.ref O, rfl, .ref Ar, rfl, O, Ar, gs.length, os, os.reverse, rfl, h8, sZ _ _ oX, sZ _ _ aX, po, (List.reverse_perm os).trans po, fun D2 HC ts sC nD2 eD2 pt2 => ?_⟩
        have sZ := sZ.trans sC
        refine ⟨.ref D2, ts.length, rfl, .inl ⟨_, sqL eD2, rfl⟩, .int (8 : Nat), rfl, .int (8 : Nat), rfl, (8 : Nat), 1, rfl, rfl, (8 : Nat), _, rfl, rfl, ⟨by omega, by omega⟩, _, 2, rfl, rfl, ⟨by decide, by decide⟩, rfl, _, rfl, ?_⟩
        have hcnt : ts.length = gs.length * (gs.length - 1) / 2 := by
          rw [pt2.length]
          exact unl_rev h8 po
        have hE : V.int (ts.length : Nat) = (fun i j => V.int (Int.fdiv i j)) (((8 : Nat) : Int) * (((8 : Nat) : Int) - 1)) 2 := by
          show V.int (ts.length : Nat) = V.int (Int.fdiv _ 2)
          rw [half (8) (by omega), hcnt, gl]
        rw [decide_eq_true hE]
        refine iteF ?_
        refine ⟨.ref Po, rfl, .ref Fa, rfl, .ref O, rfl, Po, Fa, O, pool, gs, os, rfl, sZ _ _ pX, hpool, fX.same sZ, gf, by omega, sZ _ _ oX, po, fun H' _ => q H'⟩

    · rw [decide_eq_false (fun z => h5 (by have := V.int.inj z; omega))]
      refine iteF ?_
      have mle : 1 + r ≤ 8 := by omega
      refine ⟨.ref N, rfl, .ref Po, rfl, .int (1 + r : Nat), rfl, N, Po, 1 + r, pool, rfl, mle, n4, hNP, p4, hpool.1, pool_nodup (by decide) hpool, fun Fa H5 gs hgs s5 n5 nF f5 => ?_⟩
      have gf := frame_good hpool mle hgs
      have gl : gs.length = 1 + r := hgs.len
      have h8 := gf.ok.1
      have p5 := s5 _ _ hNP.symm p4
      -- order
      refine ⟨.ref N, rfl, .int (1 + r : Nat), rfl, N, 1 + r, rfl, by omega, n5, fun O H6 os po s6 n6 nO eO => ?_⟩
      have f6 := f5.keep (keepT_b s6 n5)
      have p6 := s6 _ _ hNP.symm p5
      have hON : O ≠ N := fun z => by
        obtain ⟨l, e, _⟩ := n5
        rw [z, e] at nO
        cases nO
      rw [← gl] at po
      -- led
      refine ⟨.ref N, rfl, .ref Fa, rfl, .ref O, rfl, N, Fa, O, gs, os, rfl, n6, f6, hON.symm, eO, po, h8, fun Le H7 ls hled s7 n7 nL eL => ?_⟩
      have f7 := f6.keep (keepT_b s7 n6)
      have p7 := s7 _ _ hNP.symm p6
      have o7 := s7 _ _ hON eO
      have hLN : Le ≠ N := nums_ne n6 nL
      have pls := hled.perm.trans po
      -- drawn
      refine ⟨.ref N, rfl, .int (1 + r : Nat), rfl, N, 1 + r, rfl, by omega, n7, fun Dr H8 ds pd s8 n8 nD eD => ?_⟩
      have f8 := f7.keep (keepT_b s8 n7)
      have p8 := s8 _ _ hNP.symm p7
      have o8 := s8 _ _ hON o7
      have l8 := s8 _ _ hLN eL
      rw [← gl] at pd
      -- around
      refine ⟨.ref O, rfl, O, _, rfl, .inl (sqL o8), fun Ar nA => ?_⟩
      refine ⟨.ref Ar, rfl, .inl ⟨rfl, _, sqL upd_same⟩, Ar, _, rfl, rfl, upd_same, ?_⟩
      rw [nts_rev]
      have sR : Same H8 (upd (upd H8 Ar (.lst (nts os))) Ar (.lst (nts os.reverse))) := fun b x e => by
        rw [upd_ne (ne_of_none e nA), upd_ne (ne_of_none e nA)]
        exact e
      have eR : upd (upd H8 Ar (.lst (nts os))) Ar (.lst (nts os.reverse)) Ar = some (.lst (nts os.reverse)) := upd_same
      generalize upd (upd H8 Ar (.lst (nts os))) Ar (.lst (nts os.reverse)) = H9 at sR eR ⊢
      -- [led, drawn, around, list(order)]
      refine ⟨.ref Le, rfl, .ref Dr, rfl, .ref Ar, rfl, .ref O, rfl, O, _, rfl, .inl (sqL (sR _ _ o8)), fun Oc nOc => ⟨by show 4 ≤ sizeLine; decide, fun X nX => ⟨X, rfl, ⟨_, sqL upd_same⟩, ?_⟩⟩⟩
      have sX : Same H9 (upd (upd H9 Oc (.lst (nts os))) X (.lst [.ref Le, .ref Dr, .ref Ar, .ref Oc])) := (same_upd nOc).trans (same_upd nX)
      have eX : upd (upd H9 Oc (.lst (nts os))) X (.lst [.ref Le, .ref Dr, .ref Ar, .ref Oc]) X = some (.lst [.ref Le, .ref Dr, .ref Ar, .ref Oc]) := upd_same
      have eOc : upd (upd H9 Oc (.lst (nts os))) X (.lst [.ref Le, .ref Dr, .ref Ar, .ref Oc]) Oc = some (.lst (nts os)) := same_upd nX _ _ upd_same
      generalize upd (upd H9 Oc (.lst (nts os))) X (.lst [.ref Le, .ref Dr, .ref Ar, .ref Oc]) = HX at sX eX eOc ⊢
      have sRX := sR.trans sX
      have fX := f8.same sRX
      have pX := sRX _ _ p8
      have oX := sRX _ _ o8
      have lX := sRX _ _ l8
      have aX := sX _ _ eR
      have oth : ∀ x ∈ ([.ref Le, .ref Dr, .ref Ar, .ref Oc] : List V), ∃ (t : Addr) (ms : List Nat), x = .ref t ∧ HX t = some (.lst (nts ms)) ∧ ms.Perm (List.range gs.length) := by
        intro x hx
        simp only [List.mem_cons, List.not_mem_nil, or_false] at hx
        rcases hx with e | e | e | e <;> subst e
        · exact ⟨Le, ls, rfl, lX, pls⟩
        · exact ⟨Dr, ds, rfl, sRX _ _ eD, pd⟩
        · exact ⟨Ar, os.reverse, rfl, aX, (List.reverse_perm os).trans po⟩
        · exact ⟨Oc, os, rfl, eOc, po⟩
      have frm : ∀ H', Same HX H' → Frm H' Fa gs := fun H' s' => frm_of (fX.same s') gf
      have hl100 : gs.length ≤ 100 := by omega
      refine for_list (K := K) (xs := [.ref Le, .ref Dr, .ref Ar, .ref Oc]) (D := { nx := _, rt := Q }) (fun i σ H' => (∃ c9 c10 c11, σ = [some (.ref a), some (.ref N), some (.ref Po), some (.int (1 + r : Nat)), some (.ref Fa), some (.ref O), some (.ref Le), some (.ref Dr), some (.ref Ar), c9, c10, c11]) ∧ Same HX H') ?_ ?_ ?_ ?_
      · exact ⟨⟨_, _, _, rfl⟩, Same.refl _⟩
      · exact fun i σ H' _ h => sqL (h.2 _ _ eX)
      · rintro i x σ HY hx ⟨⟨c9, c10, c11, rfl⟩, sY⟩
        obtain ⟨t, ms, rfl, et, pm⟩ := oth x (List.mem_of_getElem? hx)
        refine ⟨.ref Fa, rfl, .ref O, rfl, .ref t, rfl, Fa, O, t, gs, os, ms, rfl, fX.same sY, gf, sY _ _ oX, sY _ _ et, po, pm, fun HA sA => ⟨true, rfl, iteF ?_⟩⟩
        have sYA := sY.trans sA
        refine ⟨.ref Fa, rfl, .ref t, rfl, .ref O, rfl, Fa, t, O, gs, ms, os, rfl, fX.same sYA, gf, sYA _ _ et, sYA _ _ oX, pm, po, fun HB sB => ⟨true, rfl, iteF ?_⟩⟩
        have sYB := sYA.trans sB
        -- first, second
        refine ⟨.ref Fa, rfl, .ref O, rfl, Fa, gs, .ref O, rfl, frm _ sYB, hl100, .inr ⟨gf.ok, .inr ⟨os, ⟨O, rfl, .inl (sYB _ _ oX), po⟩, fun D1 HC t1 sC nD1 eD1 pt1 => ?_⟩⟩⟩
        have sYC := sYB.trans sC
        refine ⟨.ref Fa, rfl, .ref t, rfl, t, _, rfl, .inl ⟨sqL (sYC _ _ et), fun T2 nT2 => ?_⟩⟩
        have sT2 := same_upd nT2 (o := .tup (nts ms))
        refine ⟨Fa, gs, .ref T2, rfl, frm _ (sYC.trans sT2), hl100, .inr ⟨gf.ok, .inr ⟨ms, ⟨T2, rfl, .inr upd_same, pm⟩, fun D2 HD t2 sD nD2 eD2 pt2 => ?_⟩⟩⟩
        have sCD := sT2.trans sD
        have sYD := sYC.trans sCD
        have eD1' := sCD _ _ eD1
        have pt1' := pt1.same sCD
        -- not isinstance(first, tuple) or first != ..
        refine ⟨_, rfl, _, _, .type "tuple", _, true, rfl, .ty "tuple", .base (.tup eD1'), kit_ty (by decide +kernel), true, rfl, iteF ?_⟩
        refine ⟨.ref D1, rfl, .ref Fa, rfl, .ref O, rfl, Fa, O, gs, os, rfl, h8, fX.same sYD, sYD _ _ oX, po, fun D3 HE t3 sE nD3 eD3 pt3 => ?_⟩
        have sYE := sYD.trans sE
        refine ⟨.tuple ((dirs gs os).map pdP), .tuple ((dirs gs os).map pdP), .tup (sqT (sE _ _ eD1')) (dpPairs (pt1'.same sE)), .tup (sqT eD3) (dpPairs pt3), shPairs _, shPairs _, _, rfl, ?_⟩
        rw [eqvTP, decide_eq_true rfl]
        refine iteF ?_
        -- second != .. or (first == second) != same_for_all(..)
        refine ⟨.ref D2, rfl, .ref Fa, rfl, .ref t, rfl, Fa, t, gs, ms, rfl, h8, fX.same sYE, sYE _ _ et, pm, fun D4 HF' t4 sF nD4 eD4 pt4 => ?_⟩
        have sYF := sYE.trans sF
        have sEF := sE.trans sF
        refine ⟨.tuple ((dirs gs ms).map pdP), .tuple ((dirs gs ms).map pdP), .tup (sqT (sEF _ _ eD2)) (dpPairs (pt2.same sEF)), .tup (sqT eD4) (dpPairs pt4), shPairs _, shPairs _, _, rfl, ?_⟩
        rw [eqvTP, decide_eq_true rfl]
        refine iteF ⟨.ref D1, rfl, .ref D2, rfl, .tuple ((dirs gs os).map pdP), .tuple ((dirs gs ms).map pdP), .tup (sqT (sEF _ _ eD1')) (dpPairs (pt1'.same sEF)), .tup (sqT (sEF _ _ eD2)) (dpPairs (pt2.same sEF)), shPairs _, shPairs _, ?_⟩
        rw [eqvTP]
        refine ⟨.ref Fa, rfl, .ref O, rfl, .ref t, rfl, Fa, gs, .ref O, .ref t, rfl, frm _ sYF, hl100, .inr ⟨gf.ok, .inr (.inr ⟨os, ms, ⟨O, rfl, .inl (sYF _ _ oX), po⟩, ⟨t, rfl, .inl (sYF _ _ et), pm⟩, fun HG sG => ?_⟩)⟩⟩
        refine ⟨rfl, _, rfl, ?_⟩
        rw [decide_eq_true rfl]
        exact iteF ⟨⟨_, _, _, rfl⟩, sYF.trans sG⟩
      · rintro σ HY ⟨⟨c9, c10, c11, rfl⟩, sY⟩
        -- directions((), ()) != ()
        refine ⟨Nat.zero_le _, fun E1 nE1 => ⟨Nat.zero_le _, fun E2 nE2 => ?_⟩⟩
        have v1 := same_upd nE1 (o := .tup [])
        have v2 := same_upd nE2 (o := .tup [])
        refine ⟨E1, [], .ref E2, rfl, ⟨[], .inr (v2 _ _ upd_same), .nil, fun g hg => absurd hg (by simp)⟩, by decide, .inr ⟨frOk_nil, .inr ⟨[], ⟨E2, rfl, .inr upd_same, List.Perm.refl _⟩, fun D1 HA t1 sA nD1 eD1 pt1 => ?_⟩⟩⟩
        refine ⟨Nat.zero_le _, fun E3 nE3 => ?_⟩
        have v3 := same_upd nE3 (o := .tup [])
        refine ⟨.tuple ((dirs [] []).map pdP), .tuple (([] : List (Nat × Nat)).map pdP), .tup (sqT (v3 _ _ eD1)) (dpPairs (pt1.same v3)), .tup (sqT upd_same) .nil, shPairs _, shPairs _, _, rfl, ?_⟩
        rw [eqvTP, decide_eq_true dirs_nil]
        refine iteF ?_
        have sZ := sY.trans (v1.trans (v2.trans (sA.trans v3)))
        generalize upd HA E3 (.tup []) = HZ at sZ ⊢
        -- swaps((), (), []) != ()
        refine ⟨Nat.zero_le _, fun E1 nE1 => ⟨Nat.zero_le _, fun E2 nE2 => ⟨Nat.zero_le _, fun E3 nE3 => ?_⟩⟩⟩
        have v1 := same_upd nE1 (o := .tup [])
        have v2 := same_upd nE2 (o := .tup [])
        have v3 := same_upd nE3 (o := .lst [])
        refine ⟨E1, [], .ref E2, .ref E3, rfl, ⟨[], .inr ((v2.trans v3) _ _ upd_same), .nil, fun g hg => absurd hg (by simp)⟩, by decide, .inr ⟨frOk_nil, .inr (.inr ⟨[], [], ⟨E2, rfl, .inr (v3 _ _ upd_same), List.Perm.refl _⟩, ⟨E3, rfl, .inl upd_same, List.Perm.refl _⟩, .inr ⟨rfl, fun D1 HA sA nD1 eD1 => ?_⟩⟩)⟩⟩
        refine ⟨Nat.zero_le _, fun E4 nE4 => ?_⟩
        have v4 := same_upd nE4 (o := .tup [])
        refine ⟨.tuple (([] : List (Nat × Nat)).map pdP), .tuple (([] : List (Nat × Nat)).map pdP), .tup (sqT (v4 _ _ eD1)) .nil, .tup (sqT upd_same) .nil, shPairs _, shPairs _, _, rfl, ?_⟩
        rw [eqvTP, decide_eq_true rfl]
        refine iteF ?_
        have sZ := sZ.trans (v1.trans (v2.trans (v3.trans (sA.trans v4))))
        generalize upd HA E4 (.tup []) = HZ at sZ ⊢
        -- same_for_all([], [], ()) is not True
        refine ⟨Nat.zero_le _, fun E1 nE1 => ⟨Nat.zero_le _, fun E2 nE2 => ⟨Nat.zero_le _, fun E3 nE3 => ?_⟩⟩⟩
        have v1 := same_upd nE1 (o := .lst [])
        have v2 := same_upd nE2 (o := .lst [])
        have v3 := same_upd nE3 (o := .tup [])
        refine ⟨E1, [], .ref E2, .ref E3, rfl, ⟨[], .inl ((v2.trans v3) _ _ upd_same), .nil, fun g hg => absurd hg (by simp)⟩, by decide, .inr ⟨frOk_nil, .inr (.inr ⟨[], [], ⟨E2, rfl, .inl (v3 _ _ upd_same), List.Perm.refl _⟩, ⟨E3, rfl, .inr upd_same, List.Perm.refl _⟩, fun HA sA => ?_⟩)⟩⟩
        rw [decide_eq_true rfl]
        refine ⟨true, true, rfl, rfl, _, rfl, ?_⟩
        rw [decide_eq_true rfl]
        refine iteF ?_
        have sZ := sZ.trans (v1.trans (v2.trans (v3.trans sA)))
        -- swaps(frame, order, led) is None or ..
        refine ⟨.ref Fa, rfl, .ref O, rfl, .ref Le, rfl, Fa, gs, .ref O, .ref Le, rfl, frm _ sZ, hl100, .inr ⟨gf.ok, .inr (.inr ⟨os, ls, ⟨O, rfl, .inl (sZ _ _ oX), po⟩, ⟨Le, rfl, .inl (sZ _ _ lX), pls⟩, .inr ⟨dirs_agree.mpr (led_agree po hled), fun D1 HB sB nD1 eD1 => ?_⟩⟩)⟩⟩
        refine ⟨rfl, _, rfl, ?_⟩
        rw [decide_eq_false (by intro z; cases z)]
        refine iteF ?_
        have sZ := sZ.trans sB
        refine ⟨.ref O, rfl, .ref Ar, rfl, O, Ar, gs.length, os, os.reverse, rfl, h8, sZ _ _ oX, sZ _ _ aX, po, (List.reverse_perm os).trans po, fun D2 HC ts sC nD2 eD2 pt2 => ?_⟩
        have sZ := sZ.trans sC
        refine ⟨.ref D2, ts.length, rfl, .inl ⟨_, sqL eD2, rfl⟩, .int (1 + r : Nat), rfl, .int (1 + r : Nat), rfl, (1 + r : Nat), 1, rfl, rfl, (1 + r : Nat), _, rfl, rfl, ⟨by omega, by omega⟩, _, 2, rfl, rfl, ⟨by decide, by decide⟩, rfl, _, rfl, ?_⟩
        have hcnt : ts.length = gs.length * (gs.length - 1) / 2 := by
          rw [pt2.length]
          exact unl_rev h8 po
        have hE : V.int (ts.length : Nat) = (fun i j => V.int (Int.fdiv i j)) (((1 + r : Nat) : Int) * (((1 + r : Nat) : Int) - 1)) 2 := by
          show V.int (ts.length : Nat) = V.int (Int.fdiv _ 2)
          rw [half (1 + r) (by omega), hcnt, gl]
        rw [decide_eq_true hE]
        refine iteF ?_
        refine ⟨.ref Po, rfl, .ref Fa, rfl, .ref O, rfl, Po, Fa, O, pool, gs, os, rfl, sZ _ _ pX, hpool, fX.same sZ, gf, by omega, sZ _ _ oX, po, fun H' _ => q H'⟩
end
end K7

set_option maxRecDepth 100000
set_option maxHeartbeats 4000000
namespace K7
open PySem PySem.Spec PyProof.Rows L2 GX NdefX
/-! ### what the top has written -/
theorem exm_of {K : PySem.W.Frag} {S C : Addr} {b : Bool} (h1 : PySem.W.subIn K (.ref C) (.type "BaseException") = some true) (h2 : PySem.W.isClsIn K C = true) (h3 : PySem.W.typeIn K (.ref C) = some (.type "type")) (h4 : PySem.W.subIn K (.ref S) (.ref C) = some b) :
    PySem.W.exmOne K (.ref S) (.ref C) = some b := by
  have e1 : (PySem.W.subIn K (.ref C) (.type "BaseException") == some true) = true := by rw [h1] <;> rfl
  have e2 : ((PySem.W.clsIn K C).isSome && PySem.W.typeIn K (.ref C) == some (.type "type")) = true := by
    have h2' : (PySem.W.clsIn K C).isSome = true := h2
    rw [h2', h3] <;> rfl
  show (if (PySem.W.subIn K (.ref C) (.type "BaseException") == some true) = true then (if ((PySem.W.clsIn K C).isSome && PySem.W.typeIn K (.ref C) == some (.type "type")) = true then PySem.W.subIn K (.ref S) (.ref C) else none) else none) = some b
  rw [if_pos e1, if_pos e2]
  exact h4
theorem all_mk {P : Program} {w : World} {K : PySem.W.Frag} {h : Heap} {mg : Str → Option Value} {fa : Addr} (X : K.In h) (G : h.Ns mainGlobals mg) (hfa : mg "law" = some (.ref fa))
    {fpW fpL fpO fpN fpR fpCk fpO1 fpO2 fpT fpO3 fpO4 fpO5 fpO6 fpO7 fpO8 fyN fyD fyI fyPo fyFr fyTo fyOr fyLe fyU fyDi fyR fyW fyRe flaw aW CR CB CN CM iB iN iM ccB ccN ccM cdaB cdaN cdaM NB NN NM : Addr}
    {ocpW kVpW dcpW pmpW cdpW ctpW ocpL kVpL dcpL pmpL cdpL ctpL ocpO kVpO dcpO pmpO cdpO ctpO ocpN kVpN dcpN pmpN cdpN ctpN ocpR kVpR dcpR pmpR cdpR ctpR ocpCk kVpCk dcpCk pmpCk cdpCk ctpCk ocpO1 kVpO1 dcpO1 pmpO1 cdpO1 ctpO1 ocpO2 kVpO2 dcpO2 pmpO2 cdpO2 ctpO2 ocpT kVpT dcpT pmpT cdpT ctpT ocpO3 kVpO3 dcpO3 pmpO3 cdpO3 ctpO3 ocpO4 kVpO4 dcpO4 pmpO4 cdpO4 ctpO4 ocpO5 kVpO5 dcpO5 pmpO5 cdpO5 ctpO5 ocpO6 kVpO6 dcpO6 pmpO6 cdpO6 ctpO6 ocpO7 kVpO7 dcpO7 pmpO7 cdpO7 ctpO7 ocpO8 kVpO8 dcpO8 pmpO8 cdpO8 ctpO8 ocyN kVyN dcyN pmyN cdyN ctyN ocyD kVyD dcyD pmyD cdyD ctyD ocyI kVyI dcyI pmyI cdyI ctyI ocyPo kVyPo dcyPo pmyPo cdyPo ctyPo ocyFr kVyFr dcyFr pmyFr cdyFr ctyFr ocyTo kVyTo dcyTo pmyTo cdyTo ctyTo ocyOr kVyOr dcyOr pmyOr cdyOr ctyOr ocyLe kVyLe dcyLe pmyLe cdyLe ctyLe ocyU kVyU dcyU pmyU cdyU ctyU ocyDi kVyDi dcyDi pmyDi cdyDi ctyDi ocyR kVyR dcyR pmyR cdyR ctyR ocyW kVyW dcyW pmyW cdyW ctyW ocyRe kVyRe dcyRe pmyRe cdyRe ctyRe oclaw kVlaw dclaw pmlaw cdlaw ctlaw oiB kViB dciB pmiB ctiB cclB clB oiN kViN dciN pmiN ctiN cclN clN oiM kViM dciM pmiM ctiM cclM clM : Value}
    {odpW anpW odpL anpL odpO anpO odpN anpN odpR anpR odpCk anpCk odpO1 anpO1 odpO2 anpO2 odpT anpT odpO3 anpO3 odpO4 anpO4 odpO5 anpO5 odpO6 anpO6 odpO7 anpO7 odpO8 anpO8 odyN anyN odyD anyD odyI anyI odyPo anyPo odyFr anyFr odyTo anyTo odyOr anyOr odyLe anyLe odyU anyU odyDi anyDi odyR anyR odyW anyW odyRe anyRe odlaw anlaw odW diB aniB cddB cldB ddB diN aniN cddN cldN ddN diM aniM cddM cldM ddM : Option Addr}
    {slpW slpL slpO slpN slpR slpCk slpO1 slpO2 slpT slpO3 slpO4 slpO5 slpO6 slpO7 slpO8 slyN slyD slyI slyPo slyFr slyTo slyOr slyLe slyU slyDi slyR slyW slyRe sllaw slW sliB ccsB cslB sliN ccsN cslN sliM ccsM cslM : Array (Option Value)}
    {vsB vsN vsM : Array Value} {tL tS w1 w2 w3 w4 w5 tfB tfN tfM : Tok} {nW : Nat}
    {nmB qB fileB nmN qN fileN nmM qM fileM : Str} {bsB subB bsN subN bsM subM : List Value} {snB snN snM : List Str} {abB abN abM : Bool} {colB colN colM : Option Bool} {m0B m1B m2B m3B m5B m0N m1N m2N m3N m5N m0M m1M m2M m3M m5M : Option Value}
    (apW : PySem.W.nsIn K mainGlobals "is_whole" = some (some (.ref fpW)))
    (lpW : K.lookup fpW = some ⟨ocpW, odpW, .func (PySem.W.fnOf "is_whole" "is_whole" (defArgs sWhole) (defBody sWhole) (defScope sWhole) .none kVpW dcpW pmpW anpW cdpW ctpW), slpW⟩)
    (cpW : PySem.W.codeIn K cdpW "is_whole" = true)
    (kpW : PySem.W.keepIn K (.ref fpW) = true)
    (apL : PySem.W.nsIn K mainGlobals "is_listed" = some (some (.ref fpL)))
    (lpL : K.lookup fpL = some ⟨ocpL, odpL, .func (PySem.W.fnOf "is_listed" "is_listed" (defArgs sListed) (defBody sListed) (defScope sListed) .none kVpL dcpL pmpL anpL cdpL ctpL), slpL⟩)
    (cpL : PySem.W.codeIn K cdpL "is_listed" = true)
    (kpL : PySem.W.keepIn K (.ref fpL) = true)
    (apO : PySem.W.nsIn K mainGlobals "is_order" = some (some (.ref fpO)))
    (lpO : K.lookup fpO = some ⟨ocpO, odpO, .func (PySem.W.fnOf "is_order" "is_order" (defArgs sOrder) (defBody sOrder) (defScope sOrder) .none kVpO dcpO pmpO anpO cdpO ctpO), slpO⟩)
    (cpO : PySem.W.codeIn K cdpO "is_order" = true)
    (kpO : PySem.W.keepIn K (.ref fpO) = true)
    (apN : PySem.W.nsIn K mainGlobals "is_name" = some (some (.ref fpN)))
    (lpN : K.lookup fpN = some ⟨ocpN, odpN, .func (PySem.W.fnOf "is_name" "is_name" (defArgs sName) (defBody sName) (defScope sName) .none kVpN dcpN pmpN anpN cdpN ctpN), slpN⟩)
    (cpN : PySem.W.codeIn K cdpN "is_name" = true)
    (kpN : PySem.W.keepIn K (.ref fpN) = true)
    (apR : PySem.W.nsIn K mainGlobals "_is_frame_rung" = some (some (.ref fpR)))
    (lpR : K.lookup fpR = some ⟨ocpR, odpR, .func (PySem.W.fnOf "_is_frame_rung" "_is_frame_rung" (defArgs sRung) (defBody sRung) (defScope sRung) .none kVpR dcpR pmpR anpR cdpR ctpR), slpR⟩)
    (cpR : PySem.W.codeIn K cdpR "_is_frame_rung" = true)
    (kpR : PySem.W.keepIn K (.ref fpR) = true)
    (apCk : PySem.W.nsIn K mainGlobals "check_frame" = some (some (.ref fpCk)))
    (lpCk : K.lookup fpCk = some ⟨ocpCk, odpCk, .func (PySem.W.fnOf "check_frame" "check_frame" (defArgs sCheck) (defBody sCheck) (defScope sCheck) .none kVpCk dcpCk pmpCk anpCk cdpCk ctpCk), slpCk⟩)
    (cpCk : PySem.W.codeIn K cdpCk "check_frame" = true)
    (kpCk : PySem.W.keepIn K (.ref fpCk) = true)
    (apO1 : PySem.W.nsIn K mainGlobals "_check_order" = some (some (.ref fpO1)))
    (lpO1 : K.lookup fpO1 = some ⟨ocpO1, odpO1, .func (PySem.W.fnOf "_check_order" "_check_order" (defArgs sCkOrder) (defBody sCkOrder) (defScope sCkOrder) .none kVpO1 dcpO1 pmpO1 anpO1 cdpO1 ctpO1), slpO1⟩)
    (cpO1 : PySem.W.codeIn K cdpO1 "_check_order" = true)
    (kpO1 : PySem.W.keepIn K (.ref fpO1) = true)
    (apO2 : PySem.W.nsIn K mainGlobals "_check_orders" = some (some (.ref fpO2)))
    (lpO2 : K.lookup fpO2 = some ⟨ocpO2, odpO2, .func (PySem.W.fnOf "_check_orders" "_check_orders" (defArgs sCkOrders) (defBody sCkOrders) (defScope sCkOrders) .none kVpO2 dcpO2 pmpO2 anpO2 cdpO2 ctpO2), slpO2⟩)
    (cpO2 : PySem.W.codeIn K cdpO2 "_check_orders" = true)
    (kpO2 : PySem.W.keepIn K (.ref fpO2) = true)
    (apT : PySem.W.nsIn K mainGlobals "_touch" = some (some (.ref fpT)))
    (lpT : K.lookup fpT = some ⟨ocpT, odpT, .func (PySem.W.fnOf "_touch" "_touch" (defArgs sTouch) (defBody sTouch) (defScope sTouch) .none kVpT dcpT pmpT anpT cdpT ctpT), slpT⟩)
    (cpT : PySem.W.codeIn K cdpT "_touch" = true)
    (kpT : PySem.W.keepIn K (.ref fpT) = true)
    (apO3 : PySem.W.nsIn K mainGlobals "_touching" = some (some (.ref fpO3)))
    (lpO3 : K.lookup fpO3 = some ⟨ocpO3, odpO3, .func (PySem.W.fnOf "_touching" "_touching" (defArgs sTouching) (defBody sTouching) (defScope sTouching) .none kVpO3 dcpO3 pmpO3 anpO3 cdpO3 ctpO3), slpO3⟩)
    (cpO3 : PySem.W.codeIn K cdpO3 "_touching" = true)
    (kpO3 : PySem.W.keepIn K (.ref fpO3) = true)
    (apO4 : PySem.W.nsIn K mainGlobals "_places_in" = some (some (.ref fpO4)))
    (lpO4 : K.lookup fpO4 = some ⟨ocpO4, odpO4, .func (PySem.W.fnOf "_places_in" "_places_in" (defArgs sPlaces) (defBody sPlaces) (defScope sPlaces) .none kVpO4 dcpO4 pmpO4 anpO4 cdpO4 ctpO4), slpO4⟩)
    (cpO4 : PySem.W.codeIn K cdpO4 "_places_in" = true)
    (kpO4 : PySem.W.keepIn K (.ref fpO4) = true)
    (apO5 : PySem.W.nsIn K mainGlobals "_directions" = some (some (.ref fpO5)))
    (lpO5 : K.lookup fpO5 = some ⟨ocpO5, odpO5, .func (PySem.W.fnOf "_directions" "_directions" (defArgs sDirs) (defBody sDirs) (defScope sDirs) .none kVpO5 dcpO5 pmpO5 anpO5 cdpO5 ctpO5), slpO5⟩)
    (cpO5 : PySem.W.codeIn K cdpO5 "_directions" = true)
    (kpO5 : PySem.W.keepIn K (.ref fpO5) = true)
    (apO6 : PySem.W.nsIn K mainGlobals "directions" = some (some (.ref fpO6)))
    (lpO6 : K.lookup fpO6 = some ⟨ocpO6, odpO6, .func (PySem.W.fnOf "directions" "directions" (defArgs sDirections) (defBody sDirections) (defScope sDirections) .none kVpO6 dcpO6 pmpO6 anpO6 cdpO6 ctpO6), slpO6⟩)
    (cpO6 : PySem.W.codeIn K cdpO6 "directions" = true)
    (kpO6 : PySem.W.keepIn K (.ref fpO6) = true)
    (apO7 : PySem.W.nsIn K mainGlobals "same_for_all" = some (some (.ref fpO7)))
    (lpO7 : K.lookup fpO7 = some ⟨ocpO7, odpO7, .func (PySem.W.fnOf "same_for_all" "same_for_all" (defArgs sSame) (defBody sSame) (defScope sSame) .none kVpO7 dcpO7 pmpO7 anpO7 cdpO7 ctpO7), slpO7⟩)
    (cpO7 : PySem.W.codeIn K cdpO7 "same_for_all" = true)
    (kpO7 : PySem.W.keepIn K (.ref fpO7) = true)
    (apO8 : PySem.W.nsIn K mainGlobals "swaps" = some (some (.ref fpO8)))
    (lpO8 : K.lookup fpO8 = some ⟨ocpO8, odpO8, .func (PySem.W.fnOf "swaps" "swaps" (defArgs sSwaps) (defBody sSwaps) (defScope sSwaps) .none kVpO8 dcpO8 pmpO8 anpO8 cdpO8 ctpO8), slpO8⟩)
    (cpO8 : PySem.W.codeIn K cdpO8 "swaps" = true)
    (kpO8 : PySem.W.keepIn K (.ref fpO8) = true)
    (ayN : PySem.W.nsIn K mainGlobals "_law_numbers" = some (some (.ref fyN)))
    (lyN : K.lookup fyN = some ⟨ocyN, odyN, .func (PySem.W.fnOf "_law_numbers" "_law_numbers" (defArgs sLNums) (defBody sLNums) (defScope sLNums) .none kVyN dcyN pmyN anyN cdyN ctyN), slyN⟩)
    (cyN : PySem.W.codeIn K cdyN "_law_numbers" = true)
    (kyN : PySem.W.keepIn K (.ref fyN) = true)
    (ayD : PySem.W.nsIn K mainGlobals "_law_draw" = some (some (.ref fyD)))
    (lyD : K.lookup fyD = some ⟨ocyD, odyD, .func (PySem.W.fnOf "_law_draw" "_law_draw" (defArgs sLDraw) (defBody sLDraw) (defScope sLDraw) .none kVyD dcyD pmyD anyD cdyD ctyD), slyD⟩)
    (cyD : PySem.W.codeIn K cdyD "_law_draw" = true)
    (kyD : PySem.W.keepIn K (.ref fyD) = true)
    (ayI : PySem.W.nsIn K mainGlobals "_law_int" = some (some (.ref fyI)))
    (lyI : K.lookup fyI = some ⟨ocyI, odyI, .func (PySem.W.fnOf "_law_int" "_law_int" (defArgs sLInt) (defBody sLInt) (defScope sLInt) .none kVyI dcyI pmyI anyI cdyI ctyI), slyI⟩)
    (cyI : PySem.W.codeIn K cdyI "_law_int" = true)
    (kyI : PySem.W.keepIn K (.ref fyI) = true)
    (ayPo : PySem.W.nsIn K mainGlobals "_law_pool" = some (some (.ref fyPo)))
    (lyPo : K.lookup fyPo = some ⟨ocyPo, odyPo, .func (PySem.W.fnOf "_law_pool" "_law_pool" (defArgs sLPool) (defBody sLPool) (defScope sLPool) .none kVyPo dcyPo pmyPo anyPo cdyPo ctyPo), slyPo⟩)
    (cyPo : PySem.W.codeIn K cdyPo "_law_pool" = true)
    (kyPo : PySem.W.keepIn K (.ref fyPo) = true)
    (ayFr : PySem.W.nsIn K mainGlobals "_law_frame" = some (some (.ref fyFr)))
    (lyFr : K.lookup fyFr = some ⟨ocyFr, odyFr, .func (PySem.W.fnOf "_law_frame" "_law_frame" (defArgs sLFrame) (defBody sLFrame) (defScope sLFrame) .none kVyFr dcyFr pmyFr anyFr cdyFr ctyFr), slyFr⟩)
    (cyFr : PySem.W.codeIn K cdyFr "_law_frame" = true)
    (kyFr : PySem.W.keepIn K (.ref fyFr) = true)
    (ayTo : PySem.W.nsIn K mainGlobals "_law_touch" = some (some (.ref fyTo)))
    (lyTo : K.lookup fyTo = some ⟨ocyTo, odyTo, .func (PySem.W.fnOf "_law_touch" "_law_touch" (defArgs sLTouch) (defBody sLTouch) (defScope sLTouch) .none kVyTo dcyTo pmyTo anyTo cdyTo ctyTo), slyTo⟩)
    (cyTo : PySem.W.codeIn K cdyTo "_law_touch" = true)
    (kyTo : PySem.W.keepIn K (.ref fyTo) = true)
    (ayOr : PySem.W.nsIn K mainGlobals "_law_order" = some (some (.ref fyOr)))
    (lyOr : K.lookup fyOr = some ⟨ocyOr, odyOr, .func (PySem.W.fnOf "_law_order" "_law_order" (defArgs sLOrder) (defBody sLOrder) (defScope sLOrder) .none kVyOr dcyOr pmyOr anyOr cdyOr ctyOr), slyOr⟩)
    (cyOr : PySem.W.codeIn K cdyOr "_law_order" = true)
    (kyOr : PySem.W.keepIn K (.ref fyOr) = true)
    (ayLe : PySem.W.nsIn K mainGlobals "_law_led" = some (some (.ref fyLe)))
    (lyLe : K.lookup fyLe = some ⟨ocyLe, odyLe, .func (PySem.W.fnOf "_law_led" "_law_led" (defArgs sLLed) (defBody sLLed) (defScope sLLed) .none kVyLe dcyLe pmyLe anyLe cdyLe ctyLe), slyLe⟩)
    (cyLe : PySem.W.codeIn K cdyLe "_law_led" = true)
    (kyLe : PySem.W.keepIn K (.ref fyLe) = true)
    (ayU : PySem.W.nsIn K mainGlobals "_law_unlike" = some (some (.ref fyU)))
    (lyU : K.lookup fyU = some ⟨ocyU, odyU, .func (PySem.W.fnOf "_law_unlike" "_law_unlike" (defArgs sLUnlike) (defBody sLUnlike) (defScope sLUnlike) .none kVyU dcyU pmyU anyU cdyU ctyU), slyU⟩)
    (cyU : PySem.W.codeIn K cdyU "_law_unlike" = true)
    (kyU : PySem.W.keepIn K (.ref fyU) = true)
    (ayDi : PySem.W.nsIn K mainGlobals "_law_directions" = some (some (.ref fyDi)))
    (lyDi : K.lookup fyDi = some ⟨ocyDi, odyDi, .func (PySem.W.fnOf "_law_directions" "_law_directions" (defArgs sLDirs) (defBody sLDirs) (defScope sLDirs) .none kVyDi dcyDi pmyDi anyDi cdyDi ctyDi), slyDi⟩)
    (cyDi : PySem.W.codeIn K cdyDi "_law_directions" = true)
    (kyDi : PySem.W.keepIn K (.ref fyDi) = true)
    (ayR : PySem.W.nsIn K mainGlobals "_law_swaps_right" = some (some (.ref fyR)))
    (lyR : K.lookup fyR = some ⟨ocyR, odyR, .func (PySem.W.fnOf "_law_swaps_right" "_law_swaps_right" (defArgs sLRight) (defBody sLRight) (defScope sLRight) .none kVyR dcyR pmyR anyR cdyR ctyR), slyR⟩)
    (cyR : PySem.W.codeIn K cdyR "_law_swaps_right" = true)
    (kyR : PySem.W.keepIn K (.ref fyR) = true)
    (ayW : PySem.W.nsIn K mainGlobals "_law_word" = some (some (.ref fyW)))
    (lyW : K.lookup fyW = some ⟨ocyW, odyW, .func (PySem.W.fnOf "_law_word" "_law_word" (defArgs sLWord) (defBody sLWord) (defScope sLWord) .none kVyW dcyW pmyW anyW cdyW ctyW), slyW⟩)
    (cyW : PySem.W.codeIn K cdyW "_law_word" = true)
    (kyW : PySem.W.keepIn K (.ref fyW) = true)
    (ayRe : PySem.W.nsIn K mainGlobals "_law_refused" = some (some (.ref fyRe)))
    (lyRe : K.lookup fyRe = some ⟨ocyRe, odyRe, .func (PySem.W.fnOf "_law_refused" "_law_refused" (defArgs sLRefused) (defBody sLRefused) (defScope sLRefused) .none kVyRe dcyRe pmyRe anyRe cdyRe ctyRe), slyRe⟩)
    (cyRe : PySem.W.codeIn K cdyRe "_law_refused" = true)
    (kyRe : PySem.W.keepIn K (.ref fyRe) = true)
    (alaw : PySem.W.nsIn K mainGlobals "law" = some (some (.ref flaw)))
    (llaw : K.lookup flaw = some ⟨oclaw, odlaw, .func (PySem.W.fnOf "law" "law" (defArgs sLaw) (defBody sLaw) (defScope sLaw) .none kVlaw dclaw pmlaw anlaw cdlaw ctlaw), sllaw⟩)
    (claw : PySem.W.codeIn K cdlaw "law" = true)
    (klaw : PySem.W.keepIn K (.ref flaw) = true)
    (zisinstance : PySem.W.nsIn K mainGlobals "isinstance" = some none)
    (zint : PySem.W.nsIn K mainGlobals "int" = some none)
    (zbool : PySem.W.nsIn K mainGlobals "bool" = some none)
    (zstr : PySem.W.nsIn K mainGlobals "str" = some none)
    (zlist : PySem.W.nsIn K mainGlobals "list" = some none)
    (ztuple : PySem.W.nsIn K mainGlobals "tuple" = some none)
    (zlen : PySem.W.nsIn K mainGlobals "len" = some none)
    (zall : PySem.W.nsIn K mainGlobals "all" = some none)
    (zsorted : PySem.W.nsIn K mainGlobals "sorted" = some none)
    (zrange : PySem.W.nsIn K mainGlobals "range" = some none)
    (zenumerate : PySem.W.nsIn K mainGlobals "enumerate" = some none)
    (zzip : PySem.W.nsIn K mainGlobals "zip" = some none)
    (zmin : PySem.W.nsIn K mainGlobals "min" = some none)
    (zsuper : PySem.W.nsIn K mainGlobals "super" = some none)
    (vL : PySem.W.nsIn K mainGlobals "LETTERS" = some (some (.str ("abcdefghijklmnopqrstuvwxyz" : Str) tL)))
    (vS : PySem.W.nsIn K mainGlobals "SIGNS" = some (some (.str ("abcdefghijklmnopqrstuvwxyz0123456789." : Str) tS)))
    (vW : PySem.W.nsIn K mainGlobals "WORDS" = some (some (.ref aW)))
    (vX : K.lookup aW = some ⟨.type "tuple", odW, .seq #[.str ("not" : Str) w1, .str ("and" : Str) w2, .str ("or" : Str) w3, .str ("rise" : Str) w4, .str ("fall" : Str) w5] nW, slW⟩)
    (gRx : PySem.W.nsIn K mainGlobals "RungsError" = some (some (.ref CR)))
    (gxB : PySem.W.nsIn K mainGlobals "BadBook" = some (some (.ref CB)))
    (xlB : K.lookup CB = some (excClassObj nmB qB CB NB bsB [.ref CR, .type "ValueError", .type "Exception", .type "BaseException", .type "object"] true snB subB abB colB ddB m0B m1B m2B m3B m5B "ValueError.__new__"))
    (saB : PySem.W.findIn K (.ref CB) "__setattr__" = some (some (.builtin "object.__setattr__")))
    (gaB : PySem.W.findIn K (.ref CB) "__getattribute__" = some (some (.builtin "BaseException.__getattribute__")))
    (ggB : PySem.W.findIn K (.ref CB) "__getattr__" = some none)
    (ebB : PySem.W.subIn K (.ref CB) (.type "BaseException") = some true)
    (tyB : PySem.W.typeIn K (.ref CB) = some (.type "type"))
    (kcB : PySem.W.keepIn K (.ref CB) = true)
    (hdB : PySem.W.hasDictIn K CB = true)
    (icB : PySem.W.isClsIn K CB = true)
    (inB : PySem.W.findIn K (.ref CB) "__init__" = some (some (.ref iB)))
    (tiB : PySem.W.typeIn K (.ref iB) = some (.type "function"))
    (liB : K.lookup iB = some ⟨oiB, diB, .func (PySem.W.fnX "__init__" "BadBook.__init__" (defArgs sBook) (defBody sBook) (defScope sBook) [("__class__", ccB)] .none kViB dciB pmiB aniB (.ref cdaB) ctiB), sliB⟩)
    (ciB : PySem.W.codeIn K (.ref cdaB) "BadBook.__init__" = true)
    (ldB : K.lookup cdaB = some ⟨cclB, cddB, .fields vsB, ccsB⟩)
    (vfB : vsB[2]? = some (.str fileB tfB))
    (hfB : ((P.main.file : Str) == fileB) = true)
    (lcB : K.lookup ccB = some ⟨clB, cldB, .cell (some (.ref CB)), cslB⟩)
    (suB : PySem.W.ks_superIn K CB CB "__init__" = some (some (.builtin "ValueError.__init__")))
    (veB : PySem.W.subIn K (.ref CB) (.type "ValueError") = some true)
    (mrB : PySem.W.mroIn K CB (.ref CB) = some true)
    (nwordB : PySem.W.findIn K (.ref CB) "word" = some none)
    (nplaceB : PySem.W.findIn K (.ref CB) "place" = some none)
    (gxN : PySem.W.nsIn K mainGlobals "BadNumber" = some (some (.ref CN)))
    (xlN : K.lookup CN = some (excClassObj nmN qN CN NN bsN [.ref CR, .type "ValueError", .type "Exception", .type "BaseException", .type "object"] true snN subN abN colN ddN m0N m1N m2N m3N m5N "ValueError.__new__"))
    (saN : PySem.W.findIn K (.ref CN) "__setattr__" = some (some (.builtin "object.__setattr__")))
    (gaN : PySem.W.findIn K (.ref CN) "__getattribute__" = some (some (.builtin "BaseException.__getattribute__")))
    (ggN : PySem.W.findIn K (.ref CN) "__getattr__" = some none)
    (ebN : PySem.W.subIn K (.ref CN) (.type "BaseException") = some true)
    (tyN : PySem.W.typeIn K (.ref CN) = some (.type "type"))
    (kcN : PySem.W.keepIn K (.ref CN) = true)
    (hdN : PySem.W.hasDictIn K CN = true)
    (icN : PySem.W.isClsIn K CN = true)
    (inN : PySem.W.findIn K (.ref CN) "__init__" = some (some (.ref iN)))
    (tiN : PySem.W.typeIn K (.ref iN) = some (.type "function"))
    (liN : K.lookup iN = some ⟨oiN, diN, .func (PySem.W.fnX "__init__" "BadNumber.__init__" (defArgs sNum) (defBody sNum) (defScope sNum) [("__class__", ccN)] .none kViN dciN pmiN aniN (.ref cdaN) ctiN), sliN⟩)
    (ciN : PySem.W.codeIn K (.ref cdaN) "BadNumber.__init__" = true)
    (ldN : K.lookup cdaN = some ⟨cclN, cddN, .fields vsN, ccsN⟩)
    (vfN : vsN[2]? = some (.str fileN tfN))
    (hfN : ((P.main.file : Str) == fileN) = true)
    (lcN : K.lookup ccN = some ⟨clN, cldN, .cell (some (.ref CN)), cslN⟩)
    (suN : PySem.W.ks_superIn K CN CN "__init__" = some (some (.builtin "ValueError.__init__")))
    (veN : PySem.W.subIn K (.ref CN) (.type "ValueError") = some true)
    (mrN : PySem.W.mroIn K CN (.ref CN) = some true)
    (nwordN : PySem.W.findIn K (.ref CN) "word" = some none)
    (gxM : PySem.W.nsIn K mainGlobals "TooMany" = some (some (.ref CM)))
    (xlM : K.lookup CM = some (excClassObj nmM qM CM NM bsM [.ref CR, .type "ValueError", .type "Exception", .type "BaseException", .type "object"] true snM subM abM colM ddM m0M m1M m2M m3M m5M "ValueError.__new__"))
    (saM : PySem.W.findIn K (.ref CM) "__setattr__" = some (some (.builtin "object.__setattr__")))
    (gaM : PySem.W.findIn K (.ref CM) "__getattribute__" = some (some (.builtin "BaseException.__getattribute__")))
    (ggM : PySem.W.findIn K (.ref CM) "__getattr__" = some none)
    (ebM : PySem.W.subIn K (.ref CM) (.type "BaseException") = some true)
    (tyM : PySem.W.typeIn K (.ref CM) = some (.type "type"))
    (kcM : PySem.W.keepIn K (.ref CM) = true)
    (hdM : PySem.W.hasDictIn K CM = true)
    (icM : PySem.W.isClsIn K CM = true)
    (inM : PySem.W.findIn K (.ref CM) "__init__" = some (some (.ref iM)))
    (tiM : PySem.W.typeIn K (.ref iM) = some (.type "function"))
    (liM : K.lookup iM = some ⟨oiM, diM, .func (PySem.W.fnX "__init__" "TooMany.__init__" (defArgs sMany) (defBody sMany) (defScope sMany) [("__class__", ccM)] .none kViM dciM pmiM aniM (.ref cdaM) ctiM), sliM⟩)
    (ciM : PySem.W.codeIn K (.ref cdaM) "TooMany.__init__" = true)
    (ldM : K.lookup cdaM = some ⟨cclM, cddM, .fields vsM, ccsM⟩)
    (vfM : vsM[2]? = some (.str fileM tfM))
    (hfM : ((P.main.file : Str) == fileM) = true)
    (lcM : K.lookup ccM = some ⟨clM, cldM, .cell (some (.ref CM)), cslM⟩)
    (suM : PySem.W.ks_superIn K CM CM "__init__" = some (some (.builtin "ValueError.__init__")))
    (veM : PySem.W.subIn K (.ref CM) (.type "ValueError") = some true)
    (mrM : PySem.W.mroIn K CM (.ref CM) = some true)
    (nlimitM : PySem.W.findIn K (.ref CM) "limit" = some none)
    (opq : PySem.W.nsIn K cStatics "thirdparty.any" = some none)
    (smm : PySem.W.subIn K (.ref CM) (.ref CM) = some true)
    (sbm : PySem.W.subIn K (.ref CB) (.ref CM) = some false)
    (sbb : PySem.W.subIn K (.ref CB) (.ref CB) = some true)
    (snm : PySem.W.subIn K (.ref CN) (.ref CM) = some false)
    (snb : PySem.W.subIn K (.ref CN) (.ref CB) = some false)
    (snn : PySem.W.subIn K (.ref CN) (.ref CN) = some true)
    (top : (P.main.scope.names.lookup ("super" : Str)).isSome = false) :
    ∃ fd : FuncData, (∀ (s : Shared) (v : Value), BindsTo s fd ⟨[v], []⟩ [("script", v)]) ∧ ∀ base : Heap, K.In base → base.Ns mainGlobals mg → FnOk P w K mg base (CX P w) 8 fa fd ["script"] (spLaw K) := by
  have e := hfa.symm.trans (PySem.W.mg_of X G alaw)
  cases e
  have FpW := fun_mk (st := sWhole) lpW cpW kpW
  have bpW := FpW.binds (ps := ["value", "least", "most"]) fun _ _ _ _ _ _ us hl => match us, hl with | [_, _, _], _ => rfl
  have FpL := fun_mk (st := sListed) lpL cpL kpL
  have bpL := FpL.binds (ps := ["value"]) fun _ _ _ _ _ _ us hl => match us, hl with | [_], _ => rfl
  have FpO := fun_mk (st := sOrder) lpO cpO kpO
  have bpO := FpO.binds (ps := ["order", "many"]) fun _ _ _ _ _ _ us hl => match us, hl with | [_, _], _ => rfl
  have FpN := fun_mk (st := sName) lpN cpN kpN
  have bpN := FpN.binds (ps := ["value"]) fun _ _ _ _ _ _ us hl => match us, hl with | [_], _ => rfl
  have FpR := fun_mk (st := sRung) lpR cpR kpR
  have bpR := FpR.binds (ps := ["rung"]) fun _ _ _ _ _ _ us hl => match us, hl with | [_], _ => rfl
  have FpCk := fun_mk (st := sCheck) lpCk cpCk kpCk
  have bpCk := FpCk.binds (ps := ["frame"]) fun _ _ _ _ _ _ us hl => match us, hl with | [_], _ => rfl
  have FpO1 := fun_mk (st := sCkOrder) lpO1 cpO1 kpO1
  have bpO1 := FpO1.binds (ps := ["frame", "order", "word"]) fun _ _ _ _ _ _ us hl => match us, hl with | [_, _, _], _ => rfl
  have FpO2 := fun_mk (st := sCkOrders) lpO2 cpO2 kpO2
  have bpO2 := FpO2.binds (ps := ["frame", "order", "other"]) fun _ _ _ _ _ _ us hl => match us, hl with | [_, _, _], _ => rfl
  have FpT := fun_mk (st := sTouch) lpT cpT kpT
  have bpT := FpT.binds (ps := ["rung", "other"]) fun _ _ _ _ _ _ us hl => match us, hl with | [_, _], _ => rfl
  have FpO3 := fun_mk (st := sTouching) lpO3 cpO3 kpO3
  have bpO3 := FpO3.binds (ps := ["frame"]) fun _ _ _ _ _ _ us hl => match us, hl with | [_], _ => rfl
  have FpO4 := fun_mk (st := sPlaces) lpO4 cpO4 kpO4
  have bpO4 := FpO4.binds (ps := ["order"]) fun _ _ _ _ _ _ us hl => match us, hl with | [_], _ => rfl
  have FpO5 := fun_mk (st := sDirs) lpO5 cpO5 kpO5
  have bpO5 := FpO5.binds (ps := ["frame", "order"]) fun _ _ _ _ _ _ us hl => match us, hl with | [_, _], _ => rfl
  have FpO6 := fun_mk (st := sDirections) lpO6 cpO6 kpO6
  have bpO6 := FpO6.binds (ps := ["frame", "order"]) fun _ _ _ _ _ _ us hl => match us, hl with | [_, _], _ => rfl
  have FpO7 := fun_mk (st := sSame) lpO7 cpO7 kpO7
  have bpO7 := FpO7.binds (ps := ["frame", "order", "other"]) fun _ _ _ _ _ _ us hl => match us, hl with | [_, _, _], _ => rfl
  have FpO8 := fun_mk (st := sSwaps) lpO8 cpO8 kpO8
  have bpO8 := FpO8.binds (ps := ["frame", "order", "other"]) fun _ _ _ _ _ _ us hl => match us, hl with | [_, _, _], _ => rfl
  have FyN := fun_mk (st := sLNums) lyN cyN kyN
  have byN := FyN.binds (ps := ["script"]) fun _ _ _ _ _ _ us hl => match us, hl with | [_], _ => rfl
  have FyD := fun_mk (st := sLDraw) lyD cyD kyD
  have byD := FyD.binds (ps := ["numbers", "many"]) fun _ _ _ _ _ _ us hl => match us, hl with | [_, _], _ => rfl
  have FyI := fun_mk (st := sLInt) lyI cyI kyI
  have byI := FyI.binds (ps := ["value"]) fun _ _ _ _ _ _ us hl => match us, hl with | [_], _ => rfl
  have FyPo := fun_mk (st := sLPool) lyPo cyPo kyPo
  have byPo := FyPo.binds (ps := ["numbers", "total"]) fun _ _ _ _ _ _ us hl => match us, hl with | [_, _], _ => rfl
  have FyFr := fun_mk (st := sLFrame) lyFr cyFr kyFr
  have byFr := FyFr.binds (ps := ["numbers", "pool", "many"]) fun _ _ _ _ _ _ us hl => match us, hl with | [_, _, _], _ => rfl
  have FyTo := fun_mk (st := sLTouch) lyTo cyTo kyTo
  have byTo := FyTo.binds (ps := ["frame", "low", "high"]) fun _ _ _ _ _ _ us hl => match us, hl with | [_, _, _], _ => rfl
  have FyOr := fun_mk (st := sLOrder) lyOr cyOr kyOr
  have byOr := FyOr.binds (ps := ["numbers", "many"]) fun _ _ _ _ _ _ us hl => match us, hl with | [_, _], _ => rfl
  have FyLe := fun_mk (st := sLLed) lyLe cyLe kyLe
  have byLe := FyLe.binds (ps := ["numbers", "frame", "order"]) fun _ _ _ _ _ _ us hl => match us, hl with | [_, _, _], _ => rfl
  have FyU := fun_mk (st := sLUnlike) lyU cyU kyU
  have byU := FyU.binds (ps := ["order", "other"]) fun _ _ _ _ _ _ us hl => match us, hl with | [_, _], _ => rfl
  have FyDi := fun_mk (st := sLDirs) lyDi cyDi kyDi
  have byDi := FyDi.binds (ps := ["frame", "order"]) fun _ _ _ _ _ _ us hl => match us, hl with | [_, _], _ => rfl
  have FyR := fun_mk (st := sLRight) lyR cyR kyR
  have byR := FyR.binds (ps := ["frame", "order", "other"]) fun _ _ _ _ _ _ us hl => match us, hl with | [_, _, _], _ => rfl
  have FyW := fun_mk (st := sLWord) lyW cyW kyW
  have byW := FyW.binds (ps := ["turn", "frame", "order", "other"]) fun _ _ _ _ _ _ us hl => match us, hl with | [_, _, _, _], _ => rfl
  have FyRe := fun_mk (st := sLRefused) lyRe cyRe kyRe
  have byRe := FyRe.binds (ps := ["pool", "frame", "order"]) fun _ _ _ _ _ _ us hl => match us, hl with | [_, _, _], _ => rfl
  have Flaw := fun_mk (st := sLaw) llaw claw klaw
  have B : Bl mg := { isi := PySem.W.mg_none_of X G zisinstance, int := PySem.W.mg_none_of X G zint, bool := PySem.W.mg_none_of X G zbool, str := PySem.W.mg_none_of X G zstr, list := PySem.W.mg_none_of X G zlist, tuple := PySem.W.mg_none_of X G ztuple, len := PySem.W.mg_none_of X G zlen, all := PySem.W.mg_none_of X G zall, sorted := PySem.W.mg_none_of X G zsorted, range := PySem.W.mg_none_of X G zrange, enum := PySem.W.mg_none_of X G zenumerate, zip := PySem.W.mg_none_of X G zzip, min := PySem.W.mg_none_of X G zmin }
  have CN_ : Cn K mg := { let_ := ⟨tL, PySem.W.mg_of X G vL⟩, sig := ⟨tS, PySem.W.mg_of X G vS⟩, word := ⟨aW, PySem.W.mg_of X G vW, fun H => .inr ⟨_, _, _, vX, rfl, rfl, by show 5 ≤ sizeLine; decide, .cons ⟨_, rfl⟩ (.cons ⟨_, rfl⟩ (.cons ⟨_, rfl⟩ (.cons ⟨_, rfl⟩ (.cons ⟨_, rfl⟩ .nil))))⟩⟩ }
  have OB : OexC K CB := { cls := ⟨_, _, _, _, _, _, _, _, _, _, _, _, _, _, _, xlB, rfl⟩, sa := saB, exC := ebB, tyC := tyB, kC := kcB }
  have SB : Sup P K mg CB iB "BadBook.__init__" sBook (PySem.W.fnX "__init__" "BadBook.__init__" (defArgs sBook) (defBody sBook) (defScope sBook) [("__class__", ccB)] .none kViB dciB pmiB aniB (.ref cdaB) ctiB) :=
    { O := OB, iC := inB, tI := tiB, ex := ⟨_, _, _, _, _, _, _, _, _, _, _, _, _, _, _, _, _, _, _, rfl, liB, ciB, ldB, vfB, hfB, lcB⟩, sup := suB, opq := opq, sVE := veB, mro := mrB, sG := PySem.W.mg_none_of X G zsuper, top := top }
  have bxB : Binds K (PySem.W.fnX "__init__" "BadBook.__init__" (defArgs sBook) (defBody sBook) (defScope sBook) [("__class__", ccB)] .none kViB dciB pmiB aniB (.ref cdaB) ctiB) ["self", "word", "place"] [] := fun s us _ hl => by
    rw [List.append_nil] at hl ⊢
    exact match us, hl with | [_, _, _], _ => .of_eq rfl
  have ON : OexC K CN := { cls := ⟨_, _, _, _, _, _, _, _, _, _, _, _, _, _, _, xlN, rfl⟩, sa := saN, exC := ebN, tyC := tyN, kC := kcN }
  have SN : Sup P K mg CN iN "BadNumber.__init__" sNum (PySem.W.fnX "__init__" "BadNumber.__init__" (defArgs sNum) (defBody sNum) (defScope sNum) [("__class__", ccN)] .none kViN dciN pmiN aniN (.ref cdaN) ctiN) :=
    { O := ON, iC := inN, tI := tiN, ex := ⟨_, _, _, _, _, _, _, _, _, _, _, _, _, _, _, _, _, _, _, rfl, liN, ciN, ldN, vfN, hfN, lcN⟩, sup := suN, opq := opq, sVE := veN, mro := mrN, sG := PySem.W.mg_none_of X G zsuper, top := top }
  have bxN : Binds K (PySem.W.fnX "__init__" "BadNumber.__init__" (defArgs sNum) (defBody sNum) (defScope sNum) [("__class__", ccN)] .none kViN dciN pmiN aniN (.ref cdaN) ctiN) ["self", "word"] [] := fun s us _ hl => by
    rw [List.append_nil] at hl ⊢
    exact match us, hl with | [_, _], _ => .of_eq rfl
  have OM : OexC K CM := { cls := ⟨_, _, _, _, _, _, _, _, _, _, _, _, _, _, _, xlM, rfl⟩, sa := saM, exC := ebM, tyC := tyM, kC := kcM }
  have SM : Sup P K mg CM iM "TooMany.__init__" sMany (PySem.W.fnX "__init__" "TooMany.__init__" (defArgs sMany) (defBody sMany) (defScope sMany) [("__class__", ccM)] .none kViM dciM pmiM aniM (.ref cdaM) ctiM) :=
    { O := OM, iC := inM, tI := tiM, ex := ⟨_, _, _, _, _, _, _, _, _, _, _, _, _, _, _, _, _, _, _, rfl, liM, ciM, ldM, vfM, hfM, lcM⟩, sup := suM, opq := opq, sVE := veM, mro := mrM, sG := PySem.W.mg_none_of X G zsuper, top := top }
  have bxM : Binds K (PySem.W.fnX "__init__" "TooMany.__init__" (defArgs sMany) (defBody sMany) (defScope sMany) [("__class__", ccM)] .none kViM dciM pmiM aniM (.ref cdaM) ctiM) ["self", "limit"] [] := fun s us _ hl => by
    rw [List.append_nil] at hl ⊢
    exact match us, hl with | [_, _], _ => .of_eq rfl
  let XC : Xc P K mg := { CB := CB, CN := CN, CM := CM, fB := iB, fN := iN, fM := iM, dB := _, dN := _, dM := _, TB := SB, TN := SN, TM := SM, bB := bxB, bN := bxN, bM := bxM, nB := nwordB, nB2 := nplaceB, nN := nwordN, nM := nlimitM, gB := PySem.W.mg_of X G gxB, gN := PySem.W.mg_of X G gxN, gM := PySem.W.mg_of X G gxM }
  let PG : Pg P K mg := { B := B, C := CN_, X := XC, fW := fpW, dW := _, W := FpW, bW := bpW, gW := PySem.W.mg_of X G apW, fL := fpL, dL := _, L := FpL, bL := bpL, gL := PySem.W.mg_of X G apL, fO := fpO, dO := _, O := FpO, bO := bpO, gO := PySem.W.mg_of X G apO, fN := fpN, dN := _, N := FpN, bN := bpN, gN := PySem.W.mg_of X G apN, fR := fpR, dR := _, R := FpR, bR := bpR, gR := PySem.W.mg_of X G apR, fC := fpCk, dC := _, Ck := FpCk, bC := bpCk, gC := PySem.W.mg_of X G apCk, f1 := fpO1, d1 := _, O1 := FpO1, b1 := bpO1, g1 := PySem.W.mg_of X G apO1, f2 := fpO2, d2 := _, O2 := FpO2, b2 := bpO2, g2 := PySem.W.mg_of X G apO2, fT := fpT, dT := _, T := FpT, bT := bpT, gT := PySem.W.mg_of X G apT, f3 := fpO3, d3 := _, O3 := FpO3, b3 := bpO3, g3 := PySem.W.mg_of X G apO3, f4 := fpO4, d4 := _, O4 := FpO4, b4 := bpO4, g4 := PySem.W.mg_of X G apO4, f5 := fpO5, d5 := _, O5 := FpO5, b5 := bpO5, g5 := PySem.W.mg_of X G apO5, f6 := fpO6, d6 := _, O6 := FpO6, b6 := bpO6, g6 := PySem.W.mg_of X G apO6, f7 := fpO7, d7 := _, O7 := FpO7, b7 := bpO7, g7 := PySem.W.mg_of X G apO7, f8 := fpO8, d8 := _, O8 := FpO8, b8 := bpO8, g8 := PySem.W.mg_of X G apO8 }
  let LW : Lw K mg := { a0 := fyN, b0 := _, N := FyN, bN := byN, gN := PySem.W.mg_of X G ayN, a1 := fyD, b1 := _, D := FyD, bD := byD, gD := PySem.W.mg_of X G ayD, a2 := fyI, b2 := _, I := FyI, bI := byI, gI := PySem.W.mg_of X G ayI, a3 := fyPo, b3 := _, Po := FyPo, bPo := byPo, gPo := PySem.W.mg_of X G ayPo, a4 := fyFr, b4 := _, Fr := FyFr, bFr := byFr, gFr := PySem.W.mg_of X G ayFr, a5 := fyTo, b5 := _, To := FyTo, bTo := byTo, gTo := PySem.W.mg_of X G ayTo, a6 := fyOr, b6 := _, Or := FyOr, bOr := byOr, gOr := PySem.W.mg_of X G ayOr, a7 := fyLe, b7 := _, Le := FyLe, bLe := byLe, gLe := PySem.W.mg_of X G ayLe, a8 := fyU, b8 := _, U := FyU, bU := byU, gU := PySem.W.mg_of X G ayU, a9 := fyDi, b9 := _, Di := FyDi, bDi := byDi, gDi := PySem.W.mg_of X G ayDi, aA := fyR, bA := _, R := FyR, bR := byR, gR := PySem.W.mg_of X G ayR, aB := fyW, bB := _, W := FyW, bW := byW, gW := PySem.W.mg_of X G ayW, aC := fyRe, bC := _, Re := FyRe, bRe := byRe, gRe := PySem.W.mg_of X G ayRe }
  have XT : Xt K mg CB CN CM := { CR := CR, gR := PySem.W.mg_of X G gRx, xB := ⟨gaB, ggB, ebB, hdB⟩, xN := ⟨gaN, ggN, ebN, hdN⟩, xM := ⟨gaM, ggM, ebM, hdM⟩, mm := exm_of ebM icM tyM smm, bm := exm_of ebM icM tyM sbm, bb := exm_of ebB icB tyB sbb, nm := exm_of ebM icM tyM snm, nb := exm_of ebB icB tyB snb, nn := exm_of ebN icN tyN snn }
  exact ⟨_, fun s v => .of_eq rfl, fun base _ _ => ok_law PG XT LW Flaw⟩
end K7

open PySem PySem.W PyProof.Rows
set_option maxRecDepth 100000
set_option maxHeartbeats 0 in
theorem PySem.Challenge.cw_guardrungs_k07_least_swaps_holds : PySem.Challenge.rw_guardrungs_k07_least_swaps.Holds := by
  w_on; o_law; k_head; (case hw => w_witness2)
  k_fill
  refine L2.walk_of (l := PySem.Challenge.rw_guardrungs_k07_least_swaps) (n := 63) (k := 8) (x := "script") (CX := fun w => L2.CX PySem.Challenge.rw_guardrungs_k07_least_swaps.prog w) (sp := fun w => K7.spLaw _) rfl (by decide) rfl ⟨rfl, by decide, by decide⟩ (fun w h Y => PySem.W.kIn_of Y) ?F (fun _ _ a ns hl _ hS => ⟨a, ns, rfl, hS, hl, fun _ => rfl⟩) (fun _ _ _ _ _ h => by obtain ⟨_, _, _, _, _, _, _, _, _, _, _, _, z⟩ := h; exact z)
  case F =>
    intro w mg fa h KX G hmg
    refine' K7.all_mk KX G hmg ?apW ?lpW ?cpW ?kpW ?apL ?lpL ?cpL ?kpL ?apO ?lpO ?cpO ?kpO ?apN ?lpN ?cpN ?kpN ?apR ?lpR ?cpR ?kpR ?apCk ?lpCk ?cpCk ?kpCk ?apO1 ?lpO1 ?cpO1 ?kpO1 ?apO2 ?lpO2 ?cpO2 ?kpO2 ?apT ?lpT ?cpT ?kpT ?apO3 ?lpO3 ?cpO3 ?kpO3 ?apO4 ?lpO4 ?cpO4 ?kpO4 ?apO5 ?lpO5 ?cpO5 ?kpO5 ?apO6 ?lpO6 ?cpO6 ?kpO6 ?apO7 ?lpO7 ?cpO7 ?kpO7 ?apO8 ?lpO8 ?cpO8 ?kpO8 ?ayN ?lyN ?cyN ?kyN ?ayD ?lyD ?cyD ?kyD ?ayI ?lyI ?cyI ?kyI ?ayPo ?lyPo ?cyPo ?kyPo ?ayFr ?lyFr ?cyFr ?kyFr ?ayTo ?lyTo ?cyTo ?kyTo ?ayOr ?lyOr ?cyOr ?kyOr ?ayLe ?lyLe ?cyLe ?kyLe ?ayU ?lyU ?cyU ?kyU ?ayDi ?lyDi ?cyDi ?kyDi ?ayR ?lyR ?cyR ?kyR ?ayW ?lyW ?cyW ?kyW ?ayRe ?lyRe ?cyRe ?kyRe ?alaw ?llaw ?claw ?klaw ?zisinstance ?zint ?zbool ?zstr ?zlist ?ztuple ?zlen ?zall ?zsorted ?zrange ?zenumerate ?zzip ?zmin ?zsuper ?vL ?vS ?vW ?vX ?gRx ?gxB ?xlB ?saB ?gaB ?ggB ?ebB ?tyB ?kcB ?hdB ?icB ?inB ?tiB ?liB ?ciB ?ldB ?vfB ?hfB ?lcB ?suB ?veB ?mrB ?nwordB ?nplaceB ?gxN ?xlN ?saN ?gaN ?ggN ?ebN ?tyN ?kcN ?hdN ?icN ?inN ?tiN ?liN ?ciN ?ldN ?vfN ?hfN ?lcN ?suN ?veN ?mrN ?nwordN ?gxM ?xlM ?saM ?gaM ?ggM ?ebM ?tyM ?kcM ?hdM ?icM ?inM ?tiM ?liM ?ciM ?ldM ?vfM ?hfM ?lcM ?suM ?veM ?mrM ?nlimitM ?opq ?smm ?sbm ?sbb ?snm ?snb ?snn ?top
    (case apW => k_is)
    (case lpW => k_is)
    (case cpW => k_is)
    (case kpW => k_is)
    (case apL => k_is)
    (case lpL => k_is)
    (case cpL => k_is)
    (case kpL => k_is)
    (case apO => k_is)
    (case lpO => k_is)
    (case cpO => k_is)
    (case kpO => k_is)
    (case apN => k_is)
    (case lpN => k_is)
    (case cpN => k_is)
    (case kpN => k_is)
    (case apR => k_is)
    (case lpR => k_is)
    (case cpR => k_is)
    (case kpR => k_is)
    (case apCk => k_is)
    (case lpCk => k_is)
    (case cpCk => k_is)
    (case kpCk => k_is)
    (case apO1 => k_is)
    (case lpO1 => k_is)
    (case cpO1 => k_is)
    (case kpO1 => k_is)
    (case apO2 => k_is)
    (case lpO2 => k_is)
    (case cpO2 => k_is)
    (case kpO2 => k_is)
    (case apT => k_is)
    (case lpT => k_is)
    (case cpT => k_is)
    (case kpT => k_is)
    (case apO3 => k_is)
    (case lpO3 => k_is)
    (case cpO3 => k_is)
    (case kpO3 => k_is)
    (case apO4 => k_is)
    (case lpO4 => k_is)
    (case cpO4 => k_is)
    (case kpO4 => k_is)
    (case apO5 => k_is)
    (case lpO5 => k_is)
    (case cpO5 => k_is)
    (case kpO5 => k_is)
    (case apO6 => k_is)
    (case lpO6 => k_is)
    (case cpO6 => k_is)
    (case kpO6 => k_is)
    (case apO7 => k_is)
    (case lpO7 => k_is)
    (case cpO7 => k_is)
    (case kpO7 => k_is)
    (case apO8 => k_is)
    (case lpO8 => k_is)
    (case cpO8 => k_is)
    (case kpO8 => k_is)
    (case ayN => k_is)
    (case lyN => k_is)
    (case cyN => k_is)
    (case kyN => k_is)
    (case ayD => k_is)
    (case lyD => k_is)
    (case cyD => k_is)
    (case kyD => k_is)
    (case ayI => k_is)
    (case lyI => k_is)
    (case cyI => k_is)
    (case kyI => k_is)
    (case ayPo => k_is)
    (case lyPo => k_is)
    (case cyPo => k_is)
    (case kyPo => k_is)
    (case ayFr => k_is)
    (case lyFr => k_is)
    (case cyFr => k_is)
    (case kyFr => k_is)
    (case ayTo => k_is)
    (case lyTo => k_is)
    (case cyTo => k_is)
    (case kyTo => k_is)
    (case ayOr => k_is)
    (case lyOr => k_is)
    (case cyOr => k_is)
    (case kyOr => k_is)
    (case ayLe => k_is)
    (case lyLe => k_is)
    (case cyLe => k_is)
    (case kyLe => k_is)
    (case ayU => k_is)
    (case lyU => k_is)
    (case cyU => k_is)
    (case kyU => k_is)
    (case ayDi => k_is)
    (case lyDi => k_is)
    (case cyDi => k_is)
    (case kyDi => k_is)
    (case ayR => k_is)
    (case lyR => k_is)
    (case cyR => k_is)
    (case kyR => k_is)
    (case ayW => k_is)
    (case lyW => k_is)
    (case cyW => k_is)
    (case kyW => k_is)
    (case ayRe => k_is)
    (case lyRe => k_is)
    (case cyRe => k_is)
    (case kyRe => k_is)
    (case alaw => k_is)
    (case llaw => k_is)
    (case claw => k_is)
    (case klaw => k_is)
    (case zisinstance => k_is)
    (case zint => k_is)
    (case zbool => k_is)
    (case zstr => k_is)
    (case zlist => k_is)
    (case ztuple => k_is)
    (case zlen => k_is)
    (case zall => k_is)
    (case zsorted => k_is)
    (case zrange => k_is)
    (case zenumerate => k_is)
    (case zzip => k_is)
    (case zmin => k_is)
    (case zsuper => k_is)
    (case vL => k_is)
    (case vS => k_is)
    (case vW => k_is)
    (case vX => k_is)
    (case gRx => k_is)
    (case gxB => k_is)
    (case xlB => k_is)
    (case saB => k_is)
    (case gaB => k_is)
    (case ggB => k_is)
    (case ebB => k_is)
    (case tyB => k_is)
    (case kcB => k_is)
    (case hdB => k_is)
    (case icB => k_is)
    (case inB => k_is)
    (case tiB => k_is)
    (case liB => k_is)
    (case ciB => k_is)
    (case ldB => k_is)
    (case vfB => first | rfl | k_is)
    (case hfB => first | rfl | decide | k_is)
    (case lcB => k_is)
    (case suB => first | rfl | decide +kernel)
    (case veB => k_is)
    (case mrB => k_is)
    (case nwordB => k_is)
    (case nplaceB => k_is)
    (case gxN => k_is)
    (case xlN => k_is)
    (case saN => k_is)
    (case gaN => k_is)
    (case ggN => k_is)
    (case ebN => k_is)
    (case tyN => k_is)
    (case kcN => k_is)
    (case hdN => k_is)
    (case icN => k_is)
    (case inN => k_is)
    (case tiN => k_is)
    (case liN => k_is)
    (case ciN => k_is)
    (case ldN => k_is)
    (case vfN => first | rfl | k_is)
    (case hfN => first | rfl | decide | k_is)
    (case lcN => k_is)
    (case suN => first | rfl | decide +kernel)
    (case veN => k_is)
    (case mrN => k_is)
    (case nwordN => k_is)
    (case gxM => k_is)
    (case xlM => k_is)
    (case saM => k_is)
    (case gaM => k_is)
    (case ggM => k_is)
    (case ebM => k_is)
    (case tyM => k_is)
    (case kcM => k_is)
    (case hdM => k_is)
    (case icM => k_is)
    (case inM => k_is)
    (case tiM => k_is)
    (case liM => k_is)
    (case ciM => k_is)
    (case ldM => k_is)
    (case vfM => first | rfl | k_is)
    (case hfM => first | rfl | decide | k_is)
    (case lcM => k_is)
    (case suM => first | rfl | decide +kernel)
    (case veM => k_is)
    (case mrM => k_is)
    (case nlimitM => k_is)
    (case opq => k_is)
    (case smm => k_is)
    (case sbm => k_is)
    (case sbb => k_is)
    (case snm => k_is)
    (case snb => k_is)
    (case snn => k_is)
    (case top => first | rfl | decide)
