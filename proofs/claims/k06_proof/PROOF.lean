import PyProof.Rows.All
import Wide.All
import OpenK.AllK
import Wide.FinOn
import KE.KSuper
import HandS.ForMost
import HandS.Wide
import HandS.More
import HandS.Exc
import HandS.ExcInit
import HandS.Star
import HandS.ClsMeth
import HandS.Nested
import KE.KExcIs
import KE.KExcStr
import HandS.IsInst
import PyProof.ReprRoads
import HandS.DictComp
import HandS.Walk
import PySem.Challenge.RW_planfirst_k06_errors_by_hand
set_option Elab.async false
set_option linter.all false
set_option maxRecDepth 100000
set_option maxHeartbeats 4000000
/-! An exception of an own class as a tracked thing: its class, its own dict (or none as yet), the tuple of its arguments. -/
namespace Sup
open PySem PySem.Spec PyProof.Rows L2

/-- the very object: an exception of the class at C, own dict d, arguments at t -/
abbrev exnObj (C : Addr) (d : Option Addr) (t : Addr) : Obj := { cls := .ref C, dict := d, data := .fields #[.ref t, .none, .none, .none, .bool false, .none] }
def Exn (e C : Addr) (d : Option Addr) (t : Addr) : HO := .ext fun h => h.get? e = some (exnObj C d t)
theorem exn_is {e C t : Addr} {d : Option Addr} {u : HO} (h : ∀ φ, u ≠ .ext φ) : Exn e C d t ≠ u := fun z => h _ z.symm
theorem exn_ok {P : Program} {w : World} {H : Hp} {h : Heap} {e C t : Addr} {d : Option Addr} (he : h.get? e = some (exnObj C d t)) : ObjOk P w H h e (Exn e C d t) := ⟨he, ⟨_, he⟩, fun h1 h2 z k => k _ z⟩
theorem exn_at {P : Program} {w : World} {H : Hp} {h : Heap} {e C t : Addr} {d : Option Addr} (ok : HOk P w H h) (he : H e = some (Exn e C d t)) : h.get? e = some (exnObj C d t) := (show ObjOk P w H h e (.ext fun h => h.get? e = some (exnObj C d t)) from ok e _ he).1
/-- the class's record, taken apart once -/
theorem oex_cls {K : PySem.W.Frag} {C : Addr} (T : OexC K C) : ∃ cd : ClassData, PySem.W.clsIn K C = some cd ∧ PySem.HandSPX.refsVE cd.mro = true ∧ cd.hasDict = true ∧ ∃ bm, cd.mro = .ref C :: bm := by
  obtain ⟨nm, q, N, bs, bm, sn, sub, ab, col, dd, k0, k1, k2, k3, k5, hC, hbm⟩ := T.cls
  refine ⟨{ name := nm, bases := bs, mro := .ref C :: bm, ns := N, qualname := q, hasDict := true, slotNames := sn, subclasses := sub, abstract := ab, collection := col, hasDel := false }, ?_, hbm, rfl, bm, rfl⟩
  unfold PySem.W.clsIn
  rw [hC]

section
variable {X : Cx} {pins : List (Addr × Obj)} {σ : L2.St} {H : Hp} {s : Shared} {a C dx t : Addr} {f : Str} {y : V} {u : Value} {fs : List (Str × V)} {Q : Unit → Shared → Prop} {E : Value → Shared → Prop} {A : Around}
/-- the first attribute: the exception comes to have a dict -/
theorem est_new (T : OexC X.K C) (I : Inv X pins σ H s) (e : H a = some (Exn a C none t)) (hno : PySem.W.findIn X.K (.ref C) f = some none) (ry : RelV y u)
    (h : ∀ dx s', H dx = none → dx ≠ a → Inv X pins σ (upd (upd H dx (exd dx [(f, y)])) a (Exn a C (some dx) t)) s' → Q () s') : wpAny (model X.prog X.w) A (setAttr (.ref a) f u) Q E s := by
  obtain ⟨cd, hcl, hm, hdc, _⟩ := oex_cls T
  have ho := exn_at I.hok e
  obtain ⟨hp, g, d, tk, os⟩ := s
  refine PySem.W.set_plain I.kIn (ox := exnObj C none t) (od := none) ⟨ho, rfl, rfl, trivial⟩ T.sa (PySem.HandSPX.exc_osa I.kIn ho hcl hm hdc hno fun h' tk' x k big ne hx hn => ?_)
  have hnx : H x = none := I.hok.fresh big
  have old : ∀ {b : Addr} {o : HO}, H b = some o → b ≠ x := fun q => ne_of_none q hnx
  have oth : ∀ {b : Addr} {o : HO}, H b = some o → (∀ φ, o ≠ .ext φ) → b ≠ a := fun {b o} q nx z => by
    rw [z, e] at q
    exact exn_is nx (Option.some.inj q)
  have non : ∀ {b : Addr}, H b = none → b ≠ a := fun {b} n z => by
    rw [z, e] at n
    cases n
  have lt : ∀ {b : Addr} {o : Obj}, hp.get? b = some o → b ≠ x := fun q => Nat.ne_of_lt (Nat.lt_of_lt_of_le (Heap.lt_size q) big)
  refine h x _ hnx ne (I.un (t' := tk') ⟨fun b o q n _ _ => k b o (non n) q, fun b o q n _ _ => ⟨o.slots, k b o (non n) q⟩, fun b o q n _ => ?_, fun b o q _ => ?_, fun b xs q => ?_, fun b o v q => ?_, fun b ps q => ⟨#[], ?_⟩⟩ fun b o q => ?_)
  · rw [upd_ne (non n), upd_ne (lt q)]
    exact n
  · by_cases hb : b = a
    · exact ⟨_, by rw [hb]; exact hx⟩
    · exact ⟨o, k b o hb q⟩
  · rw [upd_ne (oth q fun _ z => nomatch z), upd_ne (old q)]
    exact q
  · rw [upd_ne (oth q fun _ z => nomatch z), upd_ne (old q)]
    exact q
  · rw [upd_ne (oth q fun _ z => nomatch z), upd_ne (old q), q]
    simp
  · by_cases hb : b = a
    · subst hb
      rw [upd_same] at q
      cases q
      exact exn_ok hx
    · rw [upd_ne hb] at q
      by_cases hd : b = x
      · subst hd
        rw [upd_same] at q
        cases q
        exact exd_ok hn (relO_put (fs := []) ry fun _ => True.intro)
      · rw [upd_ne hd] at q
        refine (I.hok b o q).stay (fun c v hc z => k c v ?_ z) (fun c hc => ?_) fun c xs hc => ?_
        · rcases hc with hc | hc
          · rw [hc]
            exact hb
          · exact oth hc fun _ z => nomatch z
        · rw [upd_ne (oth hc fun _ z => nomatch z), upd_ne (old hc)]
          exact hc
        · rw [upd_ne (oth hc fun _ z => nomatch z), upd_ne (old hc)]
          exact hc
/-- a further one -/
theorem est_old (T : OexC X.K C) (I : Inv X pins σ H s) (e : H a = some (Exn a C (some dx) t)) (ed : H dx = some (exd dx fs)) (hl : fs.length ≤ 900) (hno : PySem.W.findIn X.K (.ref C) f = some none) (ry : RelV y u)
    (h : ∀ s', Inv X pins σ (upd H dx (exd dx ((f, y) :: fs))) s' → Q () s') : wpAny (model X.prog X.w) A (setAttr (.ref a) f u) Q E s := by
  obtain ⟨cd, hcl, hm, hdc, _⟩ := oex_cls T
  have ho := exn_at I.hok e
  obtain ⟨mA, hns, rel⟩ := exd_at I.hok ed
  obtain ⟨hp, g, d, tk, os⟩ := s
  obtain ⟨oD, _, _, hoD, _, _⟩ := hns.count (within_of rel)
  refine PySem.W.set_plain I.kIn (ox := exnObj C (some dx) t) (od := some oD) ⟨ho, rfl, rfl, hoD⟩ T.sa ?_
  refine PySem.OEX.osa_old I.kIn ho hns (within_of rel) (by rw [List.length_map]; omega) hcl hm hdc hno fun h' tk' k hn => ?_
  obtain ⟨o, _, _, e', _⟩ := id hn
  exact h _ (I.write (t' := tk') (x := dx) (e := dx) (o := exd dx ((f, y) :: fs)) (by rw [ed]; exact True.intro) (.inl rfl) k ⟨o, e'⟩ (exd_ok hn (relO_put ry rel)))
end
/-- self.f = e, self an exception -/
def tEst (K : PySem.W.Frag) (f : Str) (to te : TE) : TS := fun D σ H => te σ H fun y H1 => to σ H1 fun x H2 => ∃ a C t : Addr, x = .ref a ∧ OexC K C ∧ PySem.W.findIn K (.ref C) f = some none ∧
  ((H2 a = some (Exn a C none t) ∧ ∀ dx, H2 dx = none → dx ≠ a → D.nx σ (upd (upd H2 dx (exd dx [(f, y)])) a (Exn a C (some dx) t))) ∨
    ∃ (dx : Addr) (fs : List (Str × V)), H2 a = some (Exn a C (some dx) t) ∧ H2 dx = some (exd dx fs) ∧ fs.length ≤ 900 ∧ D.nx σ (upd H2 dx (exd dx ((f, y) :: fs))))
section
variable {X : Cx} {o e : Expr} {es : List Expr} {to te : TE} {ta : TA} {f : Str} {p p' pos : Pos}
theorem ps_est (ho : PE X o to) (he : PE X e te) (hs : swapsWith e (some (.Attribute o f p')) pos.line X.env = pure false := by rfl) : PS X (.Assign [.Attribute o f p'] e pos) (tEst X.K f to te) := by
  refine ⟨fun pins s σ H D I h => plainObj_wpAny_Assign_Attribute (thn (he.run pins s σ H _ I h) fun v s1 ⟨y, H1, I1, r1, q1⟩ => thn (ho.run pins s1 σ H1 _ I1 q1) fun u s2 ⟨x, H2, I2, r2, a, C, t, ex, T, hno, q⟩ => ?_) hs⟩
  subst ex
  obtain rfl : u = Value.ref a := r2
  rcases q with ⟨ea, q⟩ | ⟨dx, fs, ea, ed, hl, q⟩
  · exact est_new T I2 ea hno r1 fun dx s' n ne J => ⟨σ, _, J, q dx n ne⟩
  · exact est_old T I2 ea ed hl hno r1 fun s' J => ⟨σ, _, J, q⟩

/-- C(e, ..) as a value: t the arguments' tuple, a the new exception, then C's own __init__ -/
def tExv (C : Addr) (sp : Sp) (ta : TA) : TE := fun σ H Q => ta σ H fun vs H1 => vs.length ≤ 1000 ∧ ∀ t a, H1 t = none → H1 a = none → a ≠ t →
  sp (.ref a :: vs) (upd (upd H1 t (.tup vs)) a (Exn a C none t)) (fun v H2 => v = .non ∧ Q (.ref a) H2) E0
theorem pe_exv {x : Str} {C fI : Addr} {k : Nat} {sp : Sp} (T : OexC X.K C) (iC : PySem.W.findIn X.K (.ref C) "__init__" = some (some (.ref fI))) (tI : PySem.W.typeIn X.K (.ref fI) = some (.type "function"))
    (F1 : FnR X.prog X.w X.K X.mg X.base CX0 k fI sp) (hr : Room (k + 1) X.A) (hg : Gl X x) (hm : X.mg x = some (.ref C)) (ha : PA X (e :: es) ta)
    (hdb : (x == ("__debug__" : Str)) = false := by decide) (he : starEach (e :: es) X.env = (false, eval e X.env) :: starEach es X.env := by rfl)
        (hpl : (backTo pos (starEach es X.env)).any (·.1) = false := by rfl) :
    PE X (.Call (.Name x p) (e :: es) [] pos) (tExv C sp ta) := by
  refine ⟨fun pins s σ H Q I h => wpAny_Call_Name_kw (ld_glob I hg hm (PySem.W.callWith_K (h₀ := X.base) I.ok.mod.kin T.kC (thn (ha.run pos pins s σ H _ I h) fun us s1 ⟨vs, H1, I1, r1, hz, q1⟩ => ⟨I1.kIn, ?_⟩) he hpl) hdb)⟩
  show wpAny _ _ (call (.ref C) us) _ _ _
  obtain ⟨nm, q, N, bs, bm, sn, sub, ab, col, dd, k0, k1, k2, k3, k5, hC, hbm⟩ := T.cls
  obtain ⟨hp, g, dr, tk, os⟩ := s1
  have n1 : H1 hp.objs.size = none := I1.hok.fresh (Nat.le_refl _)
  have n2 : H1 (hp.objs.size + 1) = none := I1.hok.fresh (Nat.le_succ _)
  have hus : us.length ≤ sizeLine := by
    rw [← Paired.length r1, sizeLine_eq]
    omega
  have up1 : ∀ b o, hp.get? b = some o → (hp.push (PySem.W.kdv_tup us)).get? b = some o := fun b o e => Heap.get?_push_of_some _ e
  have J1 : Inv X pins σ (upd H1 hp.objs.size (.tup vs)) ⟨hp.push (PySem.W.kdv_tup us), g, dr, tk, os⟩ :=
    I1.laid (t' := tk) up1 (Nat.le_refl _) ⟨by rw [Paired.length r1]; exact hus, us, r1, _, Heap.get?_push_size _ rfl, rfl, _, rfl⟩
  have sz : (hp.push (PySem.W.kdv_tup us)).objs.size = hp.objs.size + 1 := Heap.size_push _ _
  have J2 : Inv X pins σ (upd (upd H1 hp.objs.size (.tup vs)) (hp.objs.size + 1) (Exn (hp.objs.size + 1) C none hp.objs.size)) ⟨(hp.push (PySem.W.kdv_tup us)).push (PySem.HandSPX.excO C hp.objs.size), g, dr, tk, os⟩ :=
    J1.laid (t' := tk) (fun b o e => Heap.get?_push_of_some _ e) (Nat.le_of_eq sz) (exn_ok (by rw [← sz]; exact Heap.get?_push_size _ rfl))
  have hq := q1 hp.objs.size (hp.objs.size + 1) n1 n2 (Nat.succ_ne_self _)
  refine wpAny_call (PySem.HandSPX.call_own F.excBase_ValueError (fun Y => PySem.HandSPX.refsVE_contains Y bm hbm) (I1.kIn _ _ hC)
      (PySem.W.looks_findIn I1.kIn iC) (fun self => PySem.W.bind_fn I1.kIn self tI) hus
    (codeAny_mono (F1 _ X.stack _ _ (Value.ref (hp.objs.size + 1) :: us) _ _ E0 (hr.make C us []) (J2.env0.make C us []) (.cons (show RelV (V.ref (hp.objs.size + 1)) _ from rfl) r1) hq) fun r s' hq' => ?_))
  cases r with
  | error er => exact False.elim hq'
  | ok fl =>
    cases fl with
    | ret v =>
      obtain ⟨y, H3, J3, ry, ev, q3⟩ := J2.after hq'
      subst ev
      exact ⟨ry, ⟨V.ref (hp.objs.size + 1), H3, J3, rfl, q3⟩⟩
    | next => exact False.elim hq'
    | brk => exact False.elim hq'
    | cont => exact False.elim hq'
end
end Sup

set_option Elab.async false
set_option linter.all false
set_option maxRecDepth 100000
set_option maxHeartbeats 4000000
namespace Sup
open PySem PySem.Spec PyProof.Rows L2 ClX

/-- what the written part says of a class C whose __init__ (at fI) calls its base's (at f0); cc: the cell that holds C; cda: its code -/
structure SupT (prog : Program) (K : PySem.W.Frag) (C fI f0 cc cda : Addr) : Prop where
  oex : OexC K C
  cell : ∃ ccl ccd csl, K.lookup cc = some ⟨ccl, ccd, .cell (some (.ref C)), csl⟩
  code : ∃ cl cd vs sl file tf, K.lookup cda = some ⟨cl, cd, .fields vs, sl⟩ ∧ vs[2]? = some (.str file tf) ∧ ((prog.main.file : Str) == file) = true
  sup : PySem.W.ks_superIn K C C "__init__" = some (some (.ref f0))
  ty : PySem.W.typeIn K (.ref f0) = some (.type "function")
  fn : PySem.W.fnIn K f0 = true
  st : PySem.W.nsIn K cStatics "thirdparty.any" = some none
  top : (prog.main.scope.names.lookup ("super" : Str)).isSome = false

section
variable {X : Cx} {pins : List (Addr × Obj)} {σ : L2.St} {H : Hp} {s : Shared} {a C fI f0 cc cda t0 : Addr} {body : List Stmt} {e : Expr} {es : List Expr} {ta : TA} {p0 p1 apos pos pos2 : Pos} {CX : CXT} {k : Nat} {sp : Sp} {E : XK}
  {fd : FuncData} {ar : Arg} {i : Nat} {oc : Value} {od : Option Addr} {osl : Array (Option Value)} {Q : Hp → Prop} {pl : Sem Bool}

theorem sup_stmt (T : SupT X.prog X.K C fI f0 cc cda) (I : Inv X pins σ H s) (hms : X.mg "super" = none)
    (hks : X.env.kindOf "super" = some .globalImplicit) (hkc : X.env.kindOf "__class__" = some .free) (hcc : X.env.cells.lookup ("__class__" : Str) = some cc) (hfu : X.env.func = some fI) (hco : X.env.code = .ref cda)
    (hfI : X.K.lookup fI = some ⟨oc, od, .func fd, osl⟩) (hpar : (fd.params.posonlyargs ++ fd.params.args).head? = some ar) (hi : X.N[i]? = some ar.arg) (hσ : σ[i]? = some (some (.ref a))) (hka : X.env.kindOf ar.arg = some .local)
    (ea : H a = some (Exn a C none t0)) (F0 : FnR X.prog X.w X.K X.mg X.base CX k f0 sp) (hr : Room k X.A) (hx : Passes CX X E) (ha : PA X (e :: es) ta)
    (h : ta σ H fun vs H1 => sp (.ref a :: vs) H1 (fun v H2 => Q H2) E)
    (he : starEach (e :: es) X.env = (false, eval e X.env) :: starEach es X.env := by rfl)
        (hpl : (backTo pos (starEach es X.env)).any (·.1) = false := by rfl)
    (hin : interactive X.env = false := by rfl) (hsw : swapsWith (.Call (.Attribute (.Call (.Name "super" p0) [] [] p1) "__init__" apos) (e :: es) [] pos) none pos2.line X.env = pure false := by rfl)
    (hev : eval (.Call (.Attribute (.Call (.Name "super" p0) [] [] p1) "__init__" apos) (e :: es) [] pos) X.env = (do
      let ov ← attributeBase (.Call (.Name "super" p0) [] [] p1) "__init__" X.env (eval (.Call (.Name "super" p0) [] [] p1) X.env)
      standAt apos.atName
      let (f, first) ← holding [ov] (getMethod ov "__init__" pl)
      callWith pos f first (backTo pos (starEach (e :: es) X.env)) []) := by rfl) :
    _root_.PySem.wpAt (model X.prog X.w) X.A (.func body X.env) (exec (.Expr (.Call (.Attribute (.Call (.Name "super" p0) [] [] p1) "__init__" apos) (e :: es) [] pos) pos2) X.env)
      (fun fl s' => fl = .next ∧ ∃ H', Inv X pins σ H' s' ∧ Q H') X.xe s := by
  obtain ⟨cl, cd, vs, sl, file, tf, hcode, hvs, hfile⟩ := T.code
  obtain ⟨ccl, ccd, csl, hcell⟩ := T.cell
  obtain ⟨nm, q, N, bs, bm, sn, sub, ab, col, dd, k0, k1, k2, k3, k5, hC, hbm⟩ := T.oex.cls
  have hcl : PySem.W.clsIn X.K C = some { name := nm, bases := bs, mro := .ref C :: bm, ns := N, qualname := q, hasDict := true, slotNames := sn, subclasses := sub, abstract := ab, collection := col, hasDel := false } := by unfold PySem.W.clsIn; rw [hC] <;> rfl
  have ho := exn_at I.hok ea
  have KX := I.kIn
  have hD1 := KX _ _ hC
  obtain ⟨m, hns, hl⟩ := id I.loc
  obtain ⟨u, ru, lu⟩ := hl i ar.arg (.ref a) hi hσ (.inl hka)
  obtain rfl : u = Value.ref a := ru
  have hv : m ar.arg = some (.ref a) := by
    rcases lu with ⟨_, z⟩ | ⟨z, _⟩
    · exact z
    · rw [hka] at z
      rcases z with z | z <;> cases z
  have hac : a ≠ C := fun z => by
    rw [z] at ho
    rw [hD1] at ho
    have z2 := Option.some.inj ho
    have z3 := congrArg (·.data) z2
    cases z3
  have hsub : PySem.W.mroIn X.K C (.ref C) = some true := by
    unfold PySem.W.mroIn
    rw [hcl, Option.bind_some]
    simp
  obtain ⟨hp, g, d, t, os⟩ := s
  refine PySem.ks_wpAt_Expr_any (PySem.ks_wpAt_MethodCall (pl := pl) (PySem.ks_wpAt_super_base hks hkc (by decide) hfu (KX _ _ hfI) rfl hpar hco (KX _ _ hcode) rfl hvs hfile T.top ?_) hev) hin hsw
  obtain ⟨mb, hmb, hbt⟩ := I.ok.mod.blt
  refine PySem.W.ks_loadName_global I.ok.kind hks (PySem.Calls.loadGlobal_builtin (env := X.env) (mg := X.mg) (mb := mb) (by rw [I.ok.glob]; exact I.ok.mod.glob.keeps I.bk) hms (by rw [I.ok.blt]; exact hmb.keeps I.bk) ((hbt _ (by decide +kernel)).trans (by kernel_rfl)) ⟨rfl, ?_⟩)
  refine wpAny_loadName_free I.ok.kind hkc hcc ⟨_, KX _ _ hcell, rfl⟩ ?_
  refine wpAny_loadName_local I.ok.kind hka hns hv ?_
  refine PySem.ks_wpAny_isType_cls hD1 rfl ⟨rfl, ?_⟩
  refine PySem.ks_wpAny_call_super hD1 rfl ho rfl (fun c z => by cases z) (PySem.W.looks_mroIn KX hsub) (fun h' hso k' => ?_)
  have I1 : Inv X pins σ H ⟨h', g, d, t, os⟩ := I.kept (t' := t) k'
  have hlo : PySem.W.alongIn X.K "__init__" (((Value.ref C :: bm).dropWhile (· != .ref C)).drop 1) = some (some (.ref f0)) := by
    have z := T.sup
    unfold PySem.W.ks_superIn at z
    rw [hcl] at z
    exact z
  obtain ⟨of, hof, hofc⟩ : ∃ of, X.K.lookup f0 = some of ∧ of.cls = .type "function" := by
    have ht' : (X.K.lookup f0).map (·.cls) = some (.type "function") := T.ty
    cases z : X.K.lookup f0 with
    | none => rw [z] at ht'; cases ht'
    | some of => rw [z] at ht'; exact ⟨of, rfl, Option.some.inj ht'⟩
  refine PySem.ks_wpAny_getMethod_super (l₀ := .ref C :: bm) hso (PySem.W.looks_opaque I1.kIn T.st) ((PySem.W.looks_clsIn I1.kIn hcl).andThen .now) rfl I1.kIn hlo (I1.kIn _ _ hof) hofc hac (by decide) ?_
  have I2 : Inv X ((h'.objs.size, PySem.W.methodObj (.ref f0) (.ref a)) :: pins) σ H ⟨h'.push (PySem.W.methodObj (.ref f0) (.ref a)), g, d, t + 1, os⟩ :=
    pin_new I1 (fun _ _ z => Heap.get?_push_of_some _ z) (Nat.le_refl _) (Heap.get?_push_size h' rfl) (fun v z => nomatch z)
  refine callwith_cm I2 (base_none I1 (Nat.le_refl _)) T.fn (thn (ha.run pos _ _ σ H _ I2 h) fun us s3 ⟨vs, H2, I3, rv, q2⟩ => ⟨⟨pin_at I3, I3.kIn⟩, ?_⟩) he hpl
  refine thn (run_cm F0 hr hx I3 rv q2) fun v s4 ⟨y, H4, I4, _, q4⟩ => ⟨rfl, H4, I4, q4⟩
end
end Sup

set_option Elab.async false
set_option linter.all false
set_option maxRecDepth 100000
set_option maxHeartbeats 4000000
namespace Sup
open PySem PySem.Spec PyProof.Rows L2 ClX NdefX

section
variable {P : Program} {w : World} {K : PySem.W.Frag} {mg : Str → Option Value} {base : Heap} {N ps : List Str} {F : NF} {k : Nat} {sp spB : Sp} {C fI f0 cc : Addr} {oc doc pm ctv : Value} {od : Option Addr} {osl : Array (Option Value)}
  {e : Expr} {es : List Expr} {p0 p1 apos pos pos2 : Pos} {rest : List Stmt} {a0 : Arg} {pl : Addr → Sem Bool}

/-- THE RULE: an __init__ whose first statement is super().__init__(e, ..) -/
theorem sup_fn (S : NScope N ps ["__class__"] F.scope) (T : SupT P K C fI f0 cc F.c) (hms : mg "super" = none) (lk : K.lookup fI = some ⟨oc, od, .func (F.fd doc pm ctv), osl⟩) (hcd : PySem.W.codeIn K (.ref F.c) F.qual = true) (hcl : F.cl = [(("__class__" : Str), cc)])
    (hb : ∀ us : List Value, us.length = ps.length → bindArgs (F.fd doc pm ctv) ⟨us, []⟩ = pure (ps.zip us))
    (hbody : F.body = .Expr (.Call (.Attribute (.Call (.Name "super" p0) [] [] p1) "__init__" apos) (e :: es) [] pos) pos2 :: rest)
    (hks : F.scope.names.lookup ("super" : Str) = some .globalImplicit) (hpar : (F.params.posonlyargs ++ F.params.args).head? = some a0) (hN0 : N[0]? = some a0.arg) (hka : F.scope.names.lookup a0.arg = some .local)
    (F0 : FnR P w K mg base CX0 k f0 spB)
    (hsp : ∀ vs H Q E, sp vs H Q E → vs.length = ps.length ∧ ∃ a ws t, vs = .ref a :: ws ∧ H a = some (Exn a C none t))
    (hrd : ∀ (A : Around) (outer : List Env) (s : Shared) (H : Hp) (vs : List V) (Q : VK) (E : XK), Room k (A.deeper (envF F fI s.heap.objs.size)) → sp vs H Q E →
      ∃ ta t, PA (ncx CX0 P w K mg base N F fI A outer s H E) (e :: es) ta ∧ PSs (ncx CX0 P w K mg base N F fI A outer s H E) rest t ∧
        ∀ a ws, vs = .ref a :: ws → ta (startF N vs [none]) H fun us H1 => spB (.ref a :: us) H1 (fun _ H2 => t { nx := fun _ H' => Q .non H', rt := Q } (startF N vs [none]) H2) E0)
    (he : ∀ L, starEach (e :: es) (envF F fI L) = (false, eval e (envF F fI L)) :: starEach es (envF F fI L)) (hpl : ∀ L, (backTo pos (starEach es (envF F fI L))).any (·.1) = false)
    (hin : ∀ L, interactive (envF F fI L) = false) (hsw : ∀ L, swapsWith (.Call (.Attribute (.Call (.Name "super" p0) [] [] p1) "__init__" apos) (e :: es) [] pos) none pos2.line (envF F fI L) = pure false)
    (hev : ∀ L, eval (.Call (.Attribute (.Call (.Name "super" p0) [] [] p1) "__init__" apos) (e :: es) [] pos) (envF F fI L) = (do
      let ov ← attributeBase (.Call (.Name "super" p0) [] [] p1) "__init__" (envF F fI L) (eval (.Call (.Name "super" p0) [] [] p1) (envF F fI L))
      standAt apos.atName
      let (f, first) ← holding [ov] (getMethod ov "__init__" (pl L))
      callWith pos f first (backTo pos (starEach (e :: es) (envF F fI L))) [])) :
    FnR P w K mg base CX0 (k + 1) fI sp := by
  intro A outer s H us vs Q E hr e0 r hs
  obtain ⟨hl, a, ws, t0, rfl, ea⟩ := hsp _ _ _ _ hs
  have KX : K.In s.heap := e0.mod.kin.keeps fun b o e => (e0.bs b o e).1
  have lim : s.heap.NoLimit := e0.mod.nolimit.keeps fun b o e => (e0.bs b o e).1
  obtain ⟨ccl, ccd, csl, hcell⟩ := T.cell
  have hccb := e0.bs cc _ (e0.mod.kin _ _ hcell)
  have hclk : ∀ y c, F.cl.lookup y = some c → y = "__class__" ∧ c = cc := fun y c z => by
    rw [hcl] at z
    by_cases hy : y = "__class__"
    · subst hy
      simp [List.lookup] at z
      exact ⟨rfl, z.symm⟩
    · have q : (y == ("__class__" : Str)) = false := by simpa using hy
      simp [List.lookup, q] at z
  have hcc : F.cl.lookup ("__class__" : Str) = some cc := by rw [hcl]; simp [List.lookup]
  have CA : CellsAt F.cl ["__class__"] [none] s.heap H := {
    len := rfl
    all := fun y c z => by
      obtain ⟨_, rfl⟩ := hclk y c z
      exact ⟨hccb.2, _, _, hccb.1, rfl⟩
    inj := fun x y c z1 z2 => by rw [(hclk x c z1).1, (hclk y c z2).1]
    has := fun i y z => by
      match i, z with
      | 0, z =>
        have z' : ("__class__" : Str) = y := Option.some.inj z
        subst z'
        exact ⟨cc, hcc, fun v z2 => by simp at z2⟩
      | i + 1, z => simp at z }
  have hfr : ∀ y ∈ F.scope.names, y.2 ≠ .cell := S.nocell
  refine PySem.ks_codeAny_call_defAt (fd := F.fd doc pm ctv) (body := F.body) (binds := ps.zip us) hr.depth (KX _ _ lk) rfl lim (PySem.W.codeRec_of KX hcd) rfl (.of_eq (hb us (by rw [← r.length]; exact hl))) hfr (fun y hy => S.par _ (List.of_mem_zip (a := y.1) (b := y.2) hy).1) (fun h₁ hns kp => ?_) S.co S.gen S.kind
  have I : Inv (ncx CX0 P w K mg base N F fI A outer s H E) [] (startF N (.ref a :: ws) [none]) H { s with heap := h₁, toks := s.toks + (ps.zip us).length } := inv_startN S hr.hd e0 hl r CA hns kp
  obtain ⟨ta, t, hPA, hPS, hq⟩ := hrd A outer s H _ Q E (hr.deeper _) hs
  have hq := hq a ws rfl
  show _root_.PySem.wpAt (model P w) (ncx CX0 P w K mg base N F fI A outer s H E).A (.func F.body (ncx CX0 P w K mg base N F fI A outer s H E).env) (execs F.body (ncx CX0 P w K mg base N F fI A outer s H E).env) _ (ncx CX0 P w K mg base N F fI A outer s H E).xe _
  have st1 := sup_stmt (X := ncx CX0 P w K mg base N F fI A outer s H E) (body := F.body) (i := 0) (pos2 := pos2) (p0 := p0) (p1 := p1) (apos := apos) (pl := pl s.heap.objs.size) (Q := fun H2 => t { nx := fun _ H' => Q .non H', rt := Q } (startF N (.ref a :: ws) [none]) H2)
    T I hms hks (S.frk _ (by simp)) hcc rfl rfl lk hpar hN0 rfl hka ea F0 (hr.deeper _) pass0 hPA hq (he _) (hpl _) (hin _) (hsw _) (hev _)
  have fin : ∀ {σ' : L2.St} {H' : Hp} {v : V} {u : Value} {s' : Shared}, Inv (ncx CX0 P w K mg base N F fI A outer s H E) [] σ' H' s' → L2.RelV v u → Q v H' → CE outer P w H s Q u s' :=
    fun {σ' H' v u s'} J rv q => ⟨v, H', J.os, J.bare, J.base, J.hok, rv, q⟩
  generalize hB : F.body = B at st1 ⊢
  rw [hbody] at hB
  subst hB
  refine PySem.ks_wpAt_execs_cons (PySem.ks_wpAt_mono st1 (fun fl s' hfl => ?_) fun _ _ z => z)
  obtain ⟨rfl, H', I', q'⟩ := hfl
  refine PySem.wpAt_of_wpAny (wpAny_mono (hPS.run [] s' _ H' _ I' q') (fun fl s'' hs => ?_) fun _ _ z => z)
  cases fl with
  | ret u =>
    obtain ⟨v, σ', H', J, rv', q⟩ := hs
    exact fin J rv' q
  | next =>
    obtain ⟨σ', H', J, q⟩ := hs
    exact fin (v := V.non) (u := Value.none) J rfl q
  | brk =>
    obtain ⟨_, _, _, q⟩ := hs
    exact False.elim q
  | cont =>
    obtain ⟨_, _, _, q⟩ := hs
    exact False.elim q
end
end Sup

set_option Elab.async false
set_option linter.all false
set_option maxRecDepth 100000
set_option maxHeartbeats 4000000
namespace Sup
open PySem PySem.Spec PyProof.Rows L2 ClX NdefX

/-! ### the texts -/
abbrev arg_ (n : Str) (p : Pos) : Arg := { arg := n, annotation := none, pos := p }
def bA (p1 p2 : Pos) : Arguments := { posonlyargs := [], args := [arg_ "self" p1], vararg := some (arg_ "told" p2), kwonlyargs := [], kw_defaults := [], kwarg := none, defaults := [] }
def bB (q1 q2 q3 q4 : Pos) : List Stmt := [.Assign [.Attribute (.Name "self" q1) "told" q2] (.Name "told" q3) q4]
def bS : Scope := { kind := .function, names := [("self", .local), ("told", .local)], isGenerator := false, isCoroutine := false, more := [] }
def iA (fs : List (Str × Pos)) (p1 : Pos) : Arguments := { posonlyargs := [], args := arg_ "self" p1 :: fs.map (fun x => arg_ x.1 x.2), vararg := none, kwonlyargs := [], kw_defaults := [], kwarg := none, defaults := [] }
abbrev supCall (es : List Expr) (q1 q2 q3 q4 q5 : Pos) : Stmt := .Expr (.Call (.Attribute (.Call (.Name "super" q1) [] [] q2) "__init__" q3) es [] q4) q5
abbrev setF (f : Str) (r1 r2 r3 r4 : Pos) : Stmt := .Assign [.Attribute (.Name "self" r1) f r2] (.Name f r3) r4
def iS (fs : List Str) : Scope := { kind := .function, names := (("self" : Str), NameKind.local) :: (fs.map fun f => (f, NameKind.local)) ++ [(("__class__" : Str), NameKind.free), (("super" : Str), NameKind.globalImplicit)], isGenerator := false, isCoroutine := false, more := [] }

/-- what an exception has behind its making -/
def ErrAt (H : Hp) (a C : Addr) (fs : List (Str × V)) (vs : List V) : Prop := ∃ d t p : Addr, H a = some (Exn a C (some d) t) ∧ H d = some (exd d (fs ++ [(("told" : Str), V.ref p)])) ∧ H t = some (.tup vs)
/-- the base's __init__, its rest a tuple at p -/
def spBase (K : PySem.W.Frag) : Sp := fun vs H Q _ => ∃ (a C t : Addr) (rest : List V), vs = .ref a :: rest ∧ rest.length ≤ 1000 ∧ OexC K C ∧ PySem.W.findIn K (.ref C) "told" = some none ∧ H a = some (Exn a C none t) ∧
  ∀ (p d : Addr) (H' : Hp), H p = none → H d = none → d ≠ p → p ≠ a → d ≠ a → H' a = some (Exn a C (some d) t) → H' d = some (exd d [("told", .ref p)]) → (∀ b o, H b = some o → b ≠ a → H' b = some o) → Q .non H'
/-- an __init__ over it: attributes named fs -/
def spErr (C : Addr) (n : Nat) (fs : List Str) : Sp := fun vs H Q _ => ∃ (a t : Addr) (ws : List V), vs = .ref a :: ws ∧ ws.length = n ∧ H a = some (Exn a C none t) ∧
  ∀ (p d : Addr) (H' : Hp), H p = none → H d = none → d ≠ a → H' a = some (Exn a C (some d) t) → H' d = some (exd d ((fs.zip ws).reverse ++ [(("told" : Str), V.ref p)])) → (∀ b o, H b = some o → b ≠ a → H' b = some o) → Q .non H'

section
variable {P : Program} {w : World} {K : PySem.W.Frag} {mg : Str → Option Value} {base : Heap}
theorem base_bind {kV doc pm cdv ct : Value} {an : Option Addr} {p1 p2 q1 q2 q3 q4 : Pos} {qual : Str} : ∀ us rest : List Value, us.length = [("self" : Str)].length →
    bindArgs (PySem.W.fnOf "__init__" qual (bA p1 p2) (bB q1 q2 q3 q4) bS .none kV doc pm an cdv ct) ⟨us ++ rest, []⟩ = (newTuple rest >>= fun t => pure ([("self" : Str)].zip us ++ [(("told" : Str), t)]))
  | [a], [], _ => rfl
  | [a], r :: rs, _ => rfl
theorem base_fn {f0 : Addr} {oc kV doc pm cdv ct : Value} {an od : Option Addr} {osl : Array (Option Value)} {p1 p2 q1 q2 q3 q4 : Pos} {qual : Str}
    (lk : K.lookup f0 = some ⟨oc, od, .func (PySem.W.fnOf "__init__" qual (bA p1 p2) (bB q1 q2 q3 q4) bS .none kV doc pm an cdv ct), osl⟩) (hcd : PySem.W.codeIn K cdv qual = true) :
    FnR P w K mg base CX0 2 f0 (spBase K) := by
  have S : FnScope ["self", "told"] ([("self" : Str)] ++ [("told" : Str)]) bS := ⟨rfl, rfl, rfl, by decide +kernel, rfl, by decide +kernel, by decide +kernel⟩
  refine (StX.fn_star (k := 1) (N := ["self", "told"]) (ps := ["self"]) (pv := "told") (sp := fun vs H Q _ => ∃ (a C t p : Addr), vs = [.ref a, .ref p] ∧ OexC K C ∧ PySem.W.findIn K (.ref C) "told" = some none ∧ H a = some (Exn a C none t) ∧
      ∀ (d : Addr) (H' : Hp), H d = none → d ≠ a → H' = upd (upd H d (exd d [("told", .ref p)])) a (Exn a C (some d) t) → Q .non H')
    lk hcd S StX.cxUp_none base_bind fun A outer s H vs Q E hr hs => ?_).imp fun vs H Q E h => ?_
  · obtain ⟨a, C, t, p, rfl, T, hno, ha, k⟩ := hs
    refine ⟨_, pss_one (ps_est (pv 0) (pv 1)), ?_⟩
    exact ⟨_, rfl, _, rfl, a, C, t, rfl, T, hno, .inl ⟨ha, fun dx hd ne => k dx _ hd ne rfl⟩⟩
  · obtain ⟨a, C, t, rest, rfl, hl, T, hno, ha, k⟩ := h
    refine ⟨[.ref a], rest, rfl, rfl, Nat.le_trans hl (by rw [sizeLine_eq]; omega), fun p hp => ?_⟩
    have ap : a ≠ p := ne_of_none ha hp
    refine ⟨a, C, t, p, rfl, T, hno, (upd_ne ap).trans ha, fun d H' hd ne e => ?_⟩
    subst e
    have dp : d ≠ p := fun z => by
      rw [z, upd_same] at hd
      cases hd
    rw [upd_ne dp] at hd
    refine k p d _ hp hd dp (Ne.symm ap) ne upd_same ((upd_ne ne).trans upd_same) fun b o hb nb => ?_
    rw [upd_ne nb, upd_ne (ne_of_none hb hd), upd_ne (ne_of_none hb hp)]
    exact hb

/-- what is known of such a class's __init__ where it stands -/
structure InitT (P : Program) (K : PySem.W.Frag) (C fI f0 cc cda : Addr) (qual : Str) (fs : List (Str × Pos)) (p1 : Pos) (body : List Stmt) : Prop where
  sup : SupT P K C fI f0 cc cda
  no : ∀ f ∈ ("told" : Str) :: fs.map (·.1), PySem.W.findIn K (.ref C) f = some none
  lk : ∃ oc od doc pm ctv osl, K.lookup fI = some ⟨oc, od, .func ((NF.mk "__init__" qual (iA fs p1) body (iS (fs.map (·.1))) [(("__class__" : Str), cc)] cda).fd doc pm ctv), osl⟩
  cd : PySem.W.codeIn K (.ref cda) qual = true
abbrev nfI (qual : Str) (fs : List (Str × Pos)) (p1 : Pos) (body : List Stmt) (cc cda : Addr) : NF := ⟨"__init__", qual, iA fs p1, body, iS (fs.map (·.1)), [(("__class__" : Str), cc)], cda⟩

theorem err_len {C : Addr} {n : Nat} {fs : List Str} {vs : List V} {H : Hp} {Q : VK} {E : XK} (h : spErr C n fs vs H Q E) : vs.length = n + 1 ∧ ∃ a ws t, vs = .ref a :: ws ∧ H a = some (Exn a C none t) := by
  obtain ⟨a, t, ws, rfl, hl, ha, _⟩ := h
  exact ⟨by rw [List.length_cons, hl], a, ws, t, rfl, ha⟩

/-- the scope of such an __init__ with one parameter f -/
theorem sc_one {f : Str} (hs : f ≠ "self") (hc : f ≠ "__class__") (hu : f ≠ "super") : NScope ["self", f, "__class__"] ["self", f] ["__class__"] (iS [f]) ∧ List.lookup f (iS [f]).names = some NameKind.local ∧ List.lookup ("super" : Str) (iS [f]).names = some NameKind.globalImplicit := by
  have n0 : (("self" : Str) == f) = false := by simpa using Ne.symm hs
  have n1 : (("__class__" : Str) == f) = false := by simpa using Ne.symm hc
  have n2 : (("super" : Str) == f) = false := by simpa using Ne.symm hu
  have n3 : (f == ("self" : Str)) = false := by simpa using hs
  have sc : List.lookup f (iS [f]).names = some NameKind.local := by
    show List.lookup f ((("self" : Str), NameKind.local) :: (f, NameKind.local) :: [(("__class__" : Str), NameKind.free), (("super" : Str), NameKind.globalImplicit)]) = _
    simp [List.lookup, n3]
  have S : NScope ["self", f, "__class__"] ["self", f] ["__class__"] (iS [f]) := {
    kind := rfl
    co := rfl
    gen := rfl
    nd := by simp [Ne.symm hs, hc]; decide +kernel
    pre := rfl
    par := fun x hx => by
      rcases List.mem_cons.mp hx with rfl | hx
      · rfl
      · rw [List.mem_singleton.mp hx]
        exact sc
    nocell := fun y hy => by
      have hy : y ∈ [(("self" : Str), NameKind.local), (f, NameKind.local), (("__class__" : Str), NameKind.free), (("super" : Str), NameKind.globalImplicit)] := hy
      simp only [List.mem_cons, List.not_mem_nil, or_false] at hy
      rcases hy with rfl | rfl | rfl | rfl <;> intro z <;> cases z
    free := fun y hy z => by
      have hy : y ∈ [(("self" : Str), NameKind.local), (f, NameKind.local), (("__class__" : Str), NameKind.free), (("super" : Str), NameKind.globalImplicit)] := hy
      simp only [List.mem_cons, List.not_mem_nil, or_false] at hy
      rcases hy with rfl | rfl | rfl | rfl <;> first | exact List.mem_singleton.mpr rfl | cases z
    frk := fun x hx => by
      rw [List.mem_singleton.mp hx]
      show List.lookup ("__class__" : Str) ((("self" : Str), NameKind.local) :: (f, NameKind.local) :: [(("__class__" : Str), NameKind.free), (("super" : Str), NameKind.globalImplicit)]) = _
      have e : (("__class__" : Str) == ("self" : Str)) = false := by decide +kernel
      simp [List.lookup, n1, e] }
  have hks : List.lookup ("super" : Str) (iS [f]).names = some NameKind.globalImplicit := by
    show List.lookup ("super" : Str) ((("self" : Str), NameKind.local) :: (f, NameKind.local) :: [(("__class__" : Str), NameKind.free), (("super" : Str), NameKind.globalImplicit)]) = _
    have e : (("super" : Str) == ("self" : Str)) = false := by decide +kernel
    have e2 : (("super" : Str) == ("__class__" : Str)) = false := by decide +kernel
    simp [List.lookup, n2, e, e2]
  exact ⟨S, sc, hks⟩
/-- one attribute -/
theorem init_one {C fI f0 cc cda : Addr} {qual f : Str} {pf p1 q1 q2 q3 q4 q5 r0 r1 r2 r3 r4 : Pos} (hs : f ≠ "self") (hc : f ≠ "__class__") (hu : f ≠ "super") (ht : f ≠ "told") (hd : (f == ("__debug__" : Str)) = false) (hcd : (f == ("__classdict__" : Str)) = false)
    (T : InitT P K C fI f0 cc cda qual [(f, pf)] p1 [supCall [.Name f r0] q1 q2 q3 q4 q5, setF f r1 r2 r3 r4]) (hms : mg "super" = none) (F0 : FnR P w K mg base CX0 2 f0 (spBase K)) {pl : Addr → Sem Bool}
    (hb : ∀ (doc pm ctv u v : Value), bindArgs ((nfI qual [(f, pf)] p1 [supCall [.Name f r0] q1 q2 q3 q4 q5, setF f r1 r2 r3 r4] cc cda).fd doc pm ctv) ⟨[u, v], []⟩ = pure [(("self" : Str), u), (f, v)])
    (hev : ∀ L, eval (.Call (.Attribute (.Call (.Name "super" q1) [] [] q2) "__init__" q3) [.Name f r0] [] q4) (envF (nfI qual [(f, pf)] p1 [supCall [.Name f r0] q1 q2 q3 q4 q5, setF f r1 r2 r3 r4] cc cda) fI L) = (do
      let ov ← attributeBase (.Call (.Name "super" q1) [] [] q2) "__init__" (envF (nfI qual [(f, pf)] p1 [supCall [.Name f r0] q1 q2 q3 q4 q5, setF f r1 r2 r3 r4] cc cda) fI L) (eval (.Call (.Name "super" q1) [] [] q2) (envF (nfI qual [(f, pf)] p1 [supCall [.Name f r0] q1 q2 q3 q4 q5, setF f r1 r2 r3 r4] cc cda) fI L))
      standAt q3.atName
      let (g, first) ← holding [ov] (getMethod ov "__init__" (pl L))
      callWith q4 g first (backTo q4 (starEach [.Name f r0] (envF (nfI qual [(f, pf)] p1 [supCall [.Name f r0] q1 q2 q3 q4 q5, setF f r1 r2 r3 r4] cc cda) fI L))) [])) :
    FnR P w K mg base CX0 3 fI (spErr C 1 [f]) := by
  obtain ⟨oc, od, doc, pm, ctv, osl, lk⟩ := T.lk
  obtain ⟨S, sc, hks⟩ := sc_one hs hc hu
  refine sup_fn (F := nfI qual [(f, pf)] p1 [supCall [.Name f r0] q1 q2 q3 q4 q5, setF f r1 r2 r3 r4] cc cda) (N := ["self", f, "__class__"]) (ps := ["self", f]) (k := 2) (a0 := arg_ "self" p1) S T.sup hms lk T.cd rfl
    (fun us hl => match us, hl with | [_, _], _ => hb _ _ _ _ _) rfl hks rfl rfl rfl F0 (fun vs H Q E h => err_len h) (fun A outer s H vs Q E hr h => ?_) (fun _ => rfl) (fun _ => rfl) (fun _ => rfl) (fun _ => rfl) hev
  refine ⟨_, _, pa_cons (pe_var (i := 1) rfl (.inl sc) hd hcd) pa_nil, pss_one (ps_est (pe_var (i := 0) rfl (.inl rfl)) (pe_var (i := 1) rfl (.inl sc) hd hcd)), fun a ws e => ?_⟩
  obtain ⟨a', t, ws', rfl, hl, ha, k⟩ := h
  cases e
  match ws, hl with
  | [v], _ =>
    refine ⟨_, rfl, a, C, t, [v], rfl, (by show 1 ≤ 1000; decide), T.sup.oex, T.no _ List.mem_cons_self, ha, fun p d H' hp hd' dp pa da ea ed kp => ?_⟩
    refine ⟨_, rfl, _, rfl, a, C, t, rfl, T.sup.oex, T.no _ (by simp), .inr ⟨d, _, ea, ed, (by show 1 ≤ 900; decide), ?_⟩⟩
    have had : a ≠ d := Ne.symm da
    exact k p d _ hp hd' da ((upd_ne had).trans ea) upd_same fun b o hb nb => (upd_ne (ne_of_none hb hd')).trans (kp b o hb nb)
/-- one parameter, no attribute -/
theorem init_nil {C fI f0 cc cda : Addr} {qual f : Str} {pf p1 q1 q2 q3 q4 q5 r0 : Pos} (hs : f ≠ "self") (hc : f ≠ "__class__") (hu : f ≠ "super") (ht : f ≠ "told") (hd : (f == ("__debug__" : Str)) = false) (hcd : (f == ("__classdict__" : Str)) = false)
    (T : InitT P K C fI f0 cc cda qual [(f, pf)] p1 [supCall [.Name f r0] q1 q2 q3 q4 q5]) (hms : mg "super" = none) (F0 : FnR P w K mg base CX0 2 f0 (spBase K)) {pl : Addr → Sem Bool}
    (hb : ∀ (doc pm ctv u v : Value), bindArgs ((nfI qual [(f, pf)] p1 [supCall [.Name f r0] q1 q2 q3 q4 q5] cc cda).fd doc pm ctv) ⟨[u, v], []⟩ = pure [(("self" : Str), u), (f, v)])
    (hev : ∀ L, eval (.Call (.Attribute (.Call (.Name "super" q1) [] [] q2) "__init__" q3) [.Name f r0] [] q4) (envF (nfI qual [(f, pf)] p1 [supCall [.Name f r0] q1 q2 q3 q4 q5] cc cda) fI L) = (do
      let ov ← attributeBase (.Call (.Name "super" q1) [] [] q2) "__init__" (envF (nfI qual [(f, pf)] p1 [supCall [.Name f r0] q1 q2 q3 q4 q5] cc cda) fI L) (eval (.Call (.Name "super" q1) [] [] q2) (envF (nfI qual [(f, pf)] p1 [supCall [.Name f r0] q1 q2 q3 q4 q5] cc cda) fI L))
      standAt q3.atName
      let (g, first) ← holding [ov] (getMethod ov "__init__" (pl L))
      callWith q4 g first (backTo q4 (starEach [.Name f r0] (envF (nfI qual [(f, pf)] p1 [supCall [.Name f r0] q1 q2 q3 q4 q5] cc cda) fI L))) [])) :
    FnR P w K mg base CX0 3 fI (spErr C 1 []) := by
  obtain ⟨oc, od, doc, pm, ctv, osl, lk⟩ := T.lk
  obtain ⟨S, sc, hks⟩ := sc_one hs hc hu
  refine sup_fn (F := nfI qual [(f, pf)] p1 [supCall [.Name f r0] q1 q2 q3 q4 q5] cc cda) (N := ["self", f, "__class__"]) (ps := ["self", f]) (k := 2) (a0 := arg_ "self" p1) S T.sup hms lk T.cd rfl
    (fun us hl => match us, hl with | [_, _], _ => hb _ _ _ _ _) rfl hks rfl rfl rfl F0 (fun vs H Q E h => err_len h) (fun A outer s H vs Q E hr h => ?_) (fun _ => rfl) (fun _ => rfl) (fun _ => rfl) (fun _ => rfl) hev
  refine ⟨_, _, pa_cons (pe_var (i := 1) rfl (.inl sc) hd hcd) pa_nil, pss_nil, fun a ws e => ?_⟩
  obtain ⟨a', t, ws', rfl, hl, ha, k⟩ := h
  cases e
  match ws, hl with
  | [v], _ =>
    refine ⟨_, rfl, a, C, t, [v], rfl, (by show 1 ≤ 1000; decide), T.sup.oex, T.no _ List.mem_cons_self, ha, fun p d H' hp hd' dp pa da ea ed kp => ?_⟩
    exact k p d _ hp hd' da ea ed kp
/-- two attributes -/
theorem init_two {C fI f0 cc cda : Addr} {qual f g : Str} {pf pg p1 q1 q2 q3 q4 q5 r0 r1 r2 r3 r4 r5 t1 t2 t3 t4 : Pos} (S : NScope ["self", f, g, "__class__"] ["self", f, g] ["__class__"] (iS [f, g])) (sc : List.lookup f (iS [f, g]).names = some NameKind.local) (sg : List.lookup g (iS [f, g]).names = some NameKind.local)
    (hks : List.lookup ("super" : Str) (iS [f, g]).names = some NameKind.globalImplicit) (hd : (f == ("__debug__" : Str)) = false) (hcd : (f == ("__classdict__" : Str)) = false) (gd : (g == ("__debug__" : Str)) = false) (gcd : (g == ("__classdict__" : Str)) = false)
    (T : InitT P K C fI f0 cc cda qual [(f, pf), (g, pg)] p1 [supCall [.Name f r0, .Name g r5] q1 q2 q3 q4 q5, setF f r1 r2 r3 r4, setF g t1 t2 t3 t4]) (hms : mg "super" = none) (F0 : FnR P w K mg base CX0 2 f0 (spBase K)) {pl : Addr → Sem Bool}
    (hb : ∀ (doc pm ctv u v z : Value), bindArgs ((nfI qual [(f, pf), (g, pg)] p1 [supCall [.Name f r0, .Name g r5] q1 q2 q3 q4 q5, setF f r1 r2 r3 r4, setF g t1 t2 t3 t4] cc cda).fd doc pm ctv) ⟨[u, v, z], []⟩ = pure [(("self" : Str), u), (f, v), (g, z)])
    (hev : ∀ L, eval (.Call (.Attribute (.Call (.Name "super" q1) [] [] q2) "__init__" q3) [.Name f r0, .Name g r5] [] q4) (envF (nfI qual [(f, pf), (g, pg)] p1 [supCall [.Name f r0, .Name g r5] q1 q2 q3 q4 q5, setF f r1 r2 r3 r4, setF g t1 t2 t3 t4] cc cda) fI L) = (do
      let ov ← attributeBase (.Call (.Name "super" q1) [] [] q2) "__init__" (envF (nfI qual [(f, pf), (g, pg)] p1 [supCall [.Name f r0, .Name g r5] q1 q2 q3 q4 q5, setF f r1 r2 r3 r4, setF g t1 t2 t3 t4] cc cda) fI L) (eval (.Call (.Name "super" q1) [] [] q2) (envF (nfI qual [(f, pf), (g, pg)] p1 [supCall [.Name f r0, .Name g r5] q1 q2 q3 q4 q5, setF f r1 r2 r3 r4, setF g t1 t2 t3 t4] cc cda) fI L))
      standAt q3.atName
      let (gg, first) ← holding [ov] (getMethod ov "__init__" (pl L))
      callWith q4 gg first (backTo q4 (starEach [.Name f r0, .Name g r5] (envF (nfI qual [(f, pf), (g, pg)] p1 [supCall [.Name f r0, .Name g r5] q1 q2 q3 q4 q5, setF f r1 r2 r3 r4, setF g t1 t2 t3 t4] cc cda) fI L))) [])) :
    FnR P w K mg base CX0 3 fI (spErr C 2 [f, g]) := by
  obtain ⟨oc, od, doc, pm, ctv, osl, lk⟩ := T.lk
  refine sup_fn (F := (nfI qual [(f, pf), (g, pg)] p1 [supCall [.Name f r0, .Name g r5] q1 q2 q3 q4 q5, setF f r1 r2 r3 r4, setF g t1 t2 t3 t4] cc cda)) (N := ["self", f, g, "__class__"]) (ps := ["self", f, g]) (k := 2) (a0 := arg_ "self" p1) S T.sup hms lk T.cd rfl
    (fun us hl => match us, hl with | [_, _, _], _ => hb _ _ _ _ _ _) rfl hks rfl rfl rfl F0 (fun vs H Q E h => err_len h) (fun A outer s H vs Q E hr h => ?_) (fun _ => rfl) (fun _ => rfl) (fun _ => rfl) (fun _ => rfl) hev
  refine ⟨_, _, pa_cons (pe_var (i := 1) rfl (.inl sc) hd hcd) (pa_cons (pe_var (i := 2) rfl (.inl sg) gd gcd) pa_nil), pss_cons (ps_est (pe_var (i := 0) rfl (.inl rfl)) (pe_var (i := 1) rfl (.inl sc) hd hcd)) (pss_one (ps_est (pe_var (i := 0) rfl (.inl rfl)) (pe_var (i := 2) rfl (.inl sg) gd gcd))), fun a ws e => ?_⟩
  obtain ⟨a', t, ws', rfl, hl, ha, k⟩ := h
  cases e
  match ws, hl with
  | [v, u], _ =>
    refine ⟨_, rfl, _, rfl, a, C, t, [v, u], rfl, (by show 2 ≤ 1000; decide), T.sup.oex, T.no _ List.mem_cons_self, ha, fun p d H' hp hd' dp pa da ea ed kp => ?_⟩
    have had : a ≠ d := Ne.symm da
    refine ⟨_, rfl, _, rfl, a, C, t, rfl, T.sup.oex, T.no _ (by simp), .inr ⟨d, _, ea, ed, (by show 1 ≤ 900; decide), ?_⟩⟩
    refine ⟨_, rfl, _, rfl, a, C, t, rfl, T.sup.oex, T.no _ (by simp), .inr ⟨d, _, (upd_ne had).trans ea, upd_same, (by show 2 ≤ 900; decide), ?_⟩⟩
    rw [upd_upd]
    exact k p d _ hp hd' da ((upd_ne had).trans ea) upd_same fun b o hb nb => (upd_ne (ne_of_none hb hd')).trans (kp b o hb nb)
end
end Sup

set_option Elab.async false
set_option linter.all false
set_option maxRecDepth 100000
set_option maxHeartbeats 4000000
namespace Sup
open PySem PySem.Spec PyProof.Rows L2 ClX NdefX

/-- what a class of errors must have for its instances to be read, asked and shown -/
structure ErrC (K : PySem.W.Frag) (C : Addr) : Prop where
  ga : PySem.W.findIn K (.ref C) "__getattribute__" = some (some (.builtin "BaseException.__getattribute__"))
  gg : PySem.W.findIn K (.ref C) "__getattr__" = some none
  exC : PySem.W.subIn K (.ref C) (.type "BaseException") = some true
  hdC : PySem.W.hasDictIn K C = true
  cl : PySem.W.findIn K (.ref C) "__class__" = some (some (.builtin "object.__class__"))
  ob : PySem.W.mroIn K C (.type "object") = some true
  st : PySem.W.findIn K (.ref C) "__str__" = some (some (.builtin "BaseException.__str__"))
structure GetC (K : PySem.W.Frag) : Prop where
  hn : PySem.W.specialIn K (.builtin "object.__class__") "__get__" = some (some (.builtin "getset_descriptor.__get__"))
  ht : PySem.W.takesIn K (.builtin "object.__class__") = some true
theorem ErrC.is {K : PySem.W.Frag} {C : Addr} (T : ErrC K C) : (PySem.W.clsIn K C).isSome = true := by
  have h := T.hdC
  unfold PySem.W.hasDictIn at h
  cases e : PySem.W.clsIn K C with
  | none => rw [e] at h; cases h
  | some cd => rfl

theorem ErrAt.same {H H' : Hp} {a C : Addr} {fs : List (Str × V)} {vs : List V} (h : ErrAt H a C fs vs) (k : ∀ b o, H b = some o → H' b = some o) : ErrAt H' a C fs vs := by
  obtain ⟨d, t, p, h1, h2, h3⟩ := h
  exact ⟨d, t, p, k _ _ h1, k _ _ h2, k _ _ h3⟩
section
variable {X : Cx} {pins : List (Addr × Obj)} {σ : L2.St} {H : Hp} {s : Shared} {a C : Addr} {fs : List (Str × V)} {vs : List V}
theorem err_inst (I : Inv X pins σ H s) (h : ErrAt H a C fs vs) : ∃ (d t p : Addr) (od : Obj) (mA : Str → Option Value), PySem.W.InstAt s.heap a (exnObj C (some d) t) C (some od) ∧ (∀ n, PySem.W.lookIn n od = some (mA n)) ∧ (∀ f, RelO ((fs ++ [(("told" : Str), V.ref p)]).lookup f) (mA f)) ∧ H t = some (.tup vs) := by
  obtain ⟨d, t, p, h1, h2, h3⟩ := h
  have ho := exn_at I.hok h1
  obtain ⟨mA, hns, rel⟩ := exd_at I.hok h2
  obtain ⟨od, hod, hl⟩ := lookIn_ns hns
  exact ⟨d, t, p, od, mA, ⟨ho, rfl, rfl, hod⟩, hl, rel, h3⟩
end

/-! ### making -/
def tErr (C : Addr) (n : Nat) (fs : List Str) (ta : TA) : TE := fun σ H Q => ta σ H fun vs H1 => vs.length = n ∧ ∀ (a : Addr) (H' : Hp), H1 a = none → (∀ b o, H1 b = some o → H' b = some o) → ErrAt H' a C (fs.zip vs).reverse vs → Q (.ref a) H'
section
variable {X : Cx} {e : Expr} {es : List Expr} {ta : TA} {te : TE} {p pos : Pos} {x f : Str}
theorem pe_err {C fI : Addr} {k n : Nat} {fs : List Str} (T : OexC X.K C) (iC : PySem.W.findIn X.K (.ref C) "__init__" = some (some (.ref fI))) (tI : PySem.W.typeIn X.K (.ref fI) = some (.type "function"))
    (F1 : FnR X.prog X.w X.K X.mg X.base CX0 k fI (spErr C n fs)) (hn : n ≤ 1000) (hr : Room (k + 1) X.A) (hg : Gl X x) (hm : X.mg x = some (.ref C)) (ha : PA X (e :: es) ta)
    (hdb : (x == ("__debug__" : Str)) = false := by decide) (he : starEach (e :: es) X.env = (false, eval e X.env) :: starEach es X.env := by rfl)
        (hpl : (backTo pos (starEach es X.env)).any (·.1) = false := by rfl) :
    PE X (.Call (.Name x p) (e :: es) [] pos) (tErr C n fs ta) := by
  have ha' : PA X (e :: es) (fun σ H Q => ∃ R : List V → Hp → Prop, ta σ H R ∧ ∀ vs H1, R vs H1 → Q vs H1) :=
    ⟨fun pos pins s σ H Q I ⟨R, h, k⟩ => thn (ha.run pos pins s σ H R I h) fun us s1 ⟨vs, H1, I1, r1, q⟩ => ⟨vs, H1, I1, r1, k vs H1 q⟩⟩
  refine ⟨fun pins s σ H Q I h => (pe_exv T iC tI F1 hr hg hm ha' hdb he hpl).run pins s σ H Q I ⟨_, h, fun vs H1 q => ⟨by rw [q.1]; exact hn, fun t a ht na ne => ?_⟩⟩⟩
  refine ⟨a, t, vs, rfl, q.1, upd_same, fun p d H' hp hd da ea ed k => ⟨rfl, q.2 a H' na (fun b o hb => ?_) ⟨d, t, p, ea, ed, ?_⟩⟩⟩
  · refine k b o ?_ (ne_of_none hb na)
    rw [upd_ne (ne_of_none hb na), upd_ne (ne_of_none hb ht)]
    exact hb
  · refine k t _ ?_ (Ne.symm ne)
    rw [upd_ne (Ne.symm ne), upd_same]

/-! ### reading an attribute -/
def tXat (K : PySem.W.Frag) (f : Str) (te : TE) : TE := fun σ H Q => te σ H fun x H1 => ∃ (a C : Addr) (fs : List (Str × V)) (vs : List V) (v : V), x = .ref a ∧ ErrC K C ∧ PySem.W.findIn K (.ref C) f = some none ∧ ErrAt H1 a C fs vs ∧ fs.lookup f = some v ∧ Q v H1
theorem lookup_left {f : Str} {v : V} {gs : List (Str × V)} : ∀ {fs : List (Str × V)}, fs.lookup f = some v → (fs ++ gs).lookup f = some v
  | [], h => by cases h
  | (g, y) :: fs, h => by
    rw [List.cons_append, lookup_put]
    rw [lookup_put] at h
    by_cases e : f = g
    · rw [if_pos e] at h ⊢
      exact h
    · rw [if_neg e] at h ⊢
      exact lookup_left h
theorem pe_xat (he : PE X e te) (hb : attributeBase e f X.env (eval e X.env) = eval e X.env := by rfl) : PE X (.Attribute e f pos) (tXat X.K f te) := by
  refine ⟨fun pins s σ H Q I h => attr_of hb (thn (he.run pins s σ H _ I h) fun u s1 hh => ?_)⟩
  obtain ⟨x, H1, I1, rx, a, C, fs, vs, v, ex, T, hno, er, l, q⟩ := hh
  subst ex
  obtain rfl : u = Value.ref a := rx
  obtain ⟨d, t, p, od, mA, J, hl, rel, _⟩ := err_inst I1 er
  obtain ⟨u, hu, ru⟩ := RelO.some_of (v := v) (o := mA f) (by rw [← lookup_left (gs := [(("told" : Str), V.ref p)]) l]; exact rel f)
  exact HandSPX.exc_get I1.kIn J T.ga T.gg T.exC (PySem.W.findObj_own T.hdC hno rfl (by rw [hl, hu]))
      (handed_of ru) ⟨v, H1, I1.tok _, ru, q⟩

/-! ### isinstance, str -/
def rIsx (K : PySem.W.Frag) : List V → Hp → VK → Prop := fun xs H Q => ∃ (a C : Addr) (c : V) (u : Value) (fs : List (Str × V)) (vs : List V) (b : Bool), xs = [.ref a, c] ∧ ClsV c u ∧ ErrC K C ∧ GetC K ∧ ErrAt H a C fs vs ∧ PySem.W.kitOne K (.ref C) u = some b ∧ Q (.bl b) H
theorem call_isx : CallR X (.builtin "isinstance") (rIsx X.K) := by
  intro pins s σ H xs us Q I r h
  obtain ⟨a, C, c, u, fs, vs, b, rfl, hc, T, G, er, e, q⟩ := h
  obtain ⟨u1, u2, rfl, r1, r2⟩ := vals2 r
  obtain rfl := hc.eq r2
  obtain rfl : u1 = Value.ref a := r1
  obtain ⟨d, t, p, od, mA, J, _⟩ := err_inst I er
  exact PySem.W.kia_one (PySem.W.kitx_exc T.is T.ga T.gg T.exC T.cl G.hn G.ht T.ob) I.kIn J e (fun z => nomatch z) fun tk => ⟨.bl b, H, I.tok tk, rfl, q⟩
def rStrx (K : PySem.W.Frag) : List V → Hp → VK → Prop := fun xs H Q => ∃ (a C : Addr) (fs : List (Str × V)) (y : Str), xs = [.ref a] ∧ ErrC K C ∧ ErrAt H a C fs [.str y] ∧ Q (.str y) H
theorem call_strx (hu : X.A.units + 2 < cLine) : CallR X (.type "str") (rStrx X.K) := by
  intro pins s σ H xs us Q I r h
  obtain ⟨a, C, fs, y, rfl, T, er, q⟩ := h
  obtain ⟨u, rfl, r1⟩ := vals1 r
  obtain rfl : u = Value.ref a := r1
  obtain ⟨d, t, p, od, mA, J, _, _, ht⟩ := err_inst I er
  obtain ⟨_, its, rv, tp⟩ := (show ObjOk X.prog X.w H s.heap t (.tup [.str y]) from I.hok t _ ht)
  obtain ⟨z, rfl, tk, rfl⟩ := vals1 rv
  refine PySem.P.str_of_C_one hu ⟨I.kIn, _, _, J.at_, rfl, rfl, rfl⟩ (m := y) (tk := tk) ?_ T.st T.exC ⟨.str y, H, I, ⟨_, rfl⟩, q⟩
  obtain ⟨o, h1, h2, n, h3⟩ := tp
  exact ⟨o, n, h1, h2, h3⟩
end
end Sup

set_option Elab.async false
set_option linter.all false
set_option maxRecDepth 100000
set_option maxHeartbeats 4000000
namespace Sup
open PySem PySem.Spec PyProof.Rows L2

/-- the things that are drawn -/
inductive Thing (H : Hp) : V → Prop
  | non : Thing H .non
  | int (i : Int) (hi : i.natAbs.log2 < 1920) : Thing H (.int i)
  | str (x : Str) (hx : (reprText x).length ≤ sizeLine) : Thing H (.str x)
  | bl (b : Bool) : Thing H (.bl b)
  | lst0 (a : Addr) (h : H a = some (.lst [])) : Thing H (.ref a)
  | lst1 (a : Addr) (h : H a = some (.lst [.non])) : Thing H (.ref a)
  | tup (a b : Addr) (h : H a = some (.tup [.str "make", .ref b])) (h' : H b = some (.tup [])) : Thing H (.ref a)
  | map0 (a : Addr) (h : H a = some (.dK [])) : Thing H (.ref a)
theorem Thing.same {H H' : Hp} {v : V} (h : Thing H v) (k : ∀ b o, H b = some o → (∀ x y z : Int, o ≠ .lst [.int x, .int y, .int z]) → H' b = some o) : Thing H' v := by
  cases h with
  | non => exact .non
  | int i hi => exact .int i hi
  | str x hx => exact .str x hx
  | bl b => exact .bl b
  | lst0 a h => exact .lst0 a (k _ _ h fun _ _ _ z => by cases z)
  | lst1 a h => exact .lst1 a (k _ _ h fun _ _ _ z => by cases z)
  | tup a b h h' => exact .tup a b (k _ _ h fun _ _ _ z => by cases z) (k _ _ h' fun _ _ _ z => by cases z)
  | map0 a h => exact .map0 a (k _ _ h fun _ _ _ z => by cases z)

section
variable {X : Cx}
/-- one of two readings -/
theorem op_or {op : Value → Value → Sem Value} {r r' : R2} (h : OpR X op r) (h' : OpR X op r') : OpR X op (fun x y H Q => r x y H Q ∨ r' x y H Q) := fun pins s σ H x y v u Q I rx ry hh => hh.elim (fun z => h pins s σ H x y v u Q I rx ry z) fun z => h' pins s σ H x y v u Q I rx ry z

/-- x != x, x a thing -/
def rNeT : R2 := fun x y H Q => x = y ∧ Thing H x ∧ Q (.bl false) H
theorem op_neT (hu : X.A.units + 64 < cLine) : OpR X (compareOp .NotEq) rNeT := by
  intro pins s σ H x y v u Q I rx ry h
  obtain ⟨rfl, t, q⟩ := h
  have dat : ∀ d : PyData, Dp X.K H x d → SeqAt.shaped d = true → wpAny (model X.prog X.w) X.A (compareOp .NotEq v u) (EP X pins σ Q) X.xe s := fun d hd sd => by
    refine op_neD hu pins s σ H x x v u Q I rx ry ⟨d, d, hd, hd, sd, sd, ?_⟩
    rw [SeqAt.eqv_refl d (SeqAt.canLay_of_shaped sd)]
    exact q
  have sca : scal x x = true → wpAny (model X.prog X.w) X.A (compareOp .NotEq v u) (EP X pins σ Q) X.xe s := fun sd => by
    refine op_ne pins s σ H x x v u Q I rx ry ⟨sd, ?_⟩
    rw [decide_eq_true rfl]
    exact q
  cases t with
  | non => exact sca rfl
  | int i hi => exact sca rfl
  | str y hx => exact sca rfl
  | bl b => exact sca rfl
  | lst0 a h => exact dat (.list []) (.lst (SqL.of h) .nil) (by decide)
  | lst1 a h => exact dat (.list [.none]) (.lst (SqL.of h) (.cons .non .nil)) (by decide)
  | tup a b h h' => exact dat (.tuple [.str "make", .tuple []]) (.tup (SqT.of h) (.cons (.str _) (.cons (.tup (SqT.of h') .nil) .nil))) (by decide +kernel)
  | map0 a h => exact op_ne_dictA (by omega) pins s σ H _ _ v u Q I rx ry ⟨a, a, [], [], rfl, rfl, h, h, rfl, (fun p hp => nomatch hp), q⟩

/-- what repr says of a thing: some text, the same whenever it is asked -/
def SaysT (H : Hp) (v : V) (y : Str) : Prop := match v with
  | .non => y = "None"
  | .int i => y = toString i
  | .str x => y = reprText x
  | .bl b => y = (if b then ("True" : Str) else ("False" : Str))
  | .ref a => (H a = some (.lst []) ∧ y = PyData.shown (.list [])) ∨ (H a = some (.lst [.non]) ∧ y = PyData.shown (.list [.none])) ∨ ((∃ b, H a = some (.tup [.str "make", .ref b])) ∧ y = PyData.shown (.tuple [.str "make", .tuple []])) ∨ (H a = some (.dK []) ∧ y = PyData.shown (.dict []))
  | _ => False
def rRepT : List V → Hp → VK → Prop := fun xs H Q => ∃ v, xs = [v] ∧ Thing H v ∧ ∀ y, SaysT H v y → Q (.str y) H
theorem call_repT (hg : X.A.guards = some []) (hu : X.A.units + 64 < cLine) : CallR X (.builtin "repr") rRepT := by
  intro pins s σ H xs us Q I r h
  obtain ⟨v, rfl, t, q⟩ := h
  obtain ⟨u, rfl, r1⟩ := vals1 r
  have fin : ∀ (d : PyData) (a : Addr) (as : List Addr), u = Value.ref a → Reads s.heap (.ref a) d as → d.showable = true → (d.hasDict = true → sysModules ∉ as) → d.depth ≤ 8 → d.shown.length ≤ sizeLine → SaysT H v d.shown →
      wpAny (model X.prog X.w) X.A (call (.builtin "repr") [u]) (EP X pins σ Q) X.xe s := fun d a as e rd sh hd dp ln sy => by
    subst e
    exact repr_of_reads' rd sh hd hg (by omega) (fun _ _ z => z) (fun h' u tk k => ⟨.str d.shown, H, I.kept (t' := tk) k, ⟨_, rfl⟩, q _ sy⟩) ln
  cases t with
  | non =>
    obtain rfl : u = Value.none := r1
    exact PySem.P.repr_of_none ⟨.str "None", H, I.tok _, ⟨_, rfl⟩, q _ rfl⟩
  | int i hi =>
    obtain ⟨t, rfl⟩ := r1
    exact PySem.P.repr_of_int hi ⟨.str (toString i), H, I.tok _, ⟨_, rfl⟩, q _ rfl⟩
  | str y hx =>
    obtain ⟨t, rfl⟩ := r1
    exact PySem.P.repr_of_str ⟨.str (reprText y), H, I.tok _, ⟨_, rfl⟩, q _ rfl⟩ hx
  | bl b =>
    obtain rfl : u = Value.bool b := r1
    exact PySem.P.repr_of_bool ⟨.str (if b then ("True" : Str) else ("False" : Str)), H, I.tok _, ⟨_, rfl⟩, q _ rfl⟩
  | lst0 a h =>
    obtain ⟨as, rd⟩ := Dp.reads I (.list []) (.ref a) u (.lst (SqL.of h) .nil) r1
    obtain rfl : u = Value.ref a := r1
    exact fin (.list []) a as rfl rd (by decide) (fun z => by cases z) (by decide) (by decide +kernel) (.inl ⟨h, rfl⟩)
  | lst1 a h =>
    obtain ⟨as, rd⟩ := Dp.reads I (.list [.none]) (.ref a) u (.lst (SqL.of h) (.cons .non .nil)) r1
    obtain rfl : u = Value.ref a := r1
    exact fin (.list [.none]) a as rfl rd (by decide) (fun z => by cases z) (by decide) (by decide +kernel) (.inr (.inl ⟨h, rfl⟩))
  | tup a b h h' =>
    obtain ⟨as, rd⟩ := Dp.reads I (.tuple [.str "make", .tuple []]) (.ref a) u (.tup (SqT.of h) (.cons (.str _) (.cons (.tup (SqT.of h') .nil) .nil))) r1
    obtain rfl : u = Value.ref a := r1
    exact fin (.tuple [.str "make", .tuple []]) a as rfl rd (by decide) (fun z => by cases z) (by decide) (by decide +kernel) (.inr (.inr (.inl ⟨⟨b, h⟩, rfl⟩)))
  | map0 a h =>
    obtain rfl : u = Value.ref a := r1
    obtain ⟨_, hsy, vs, kv, o, es, ep, h1, h2, h3, h4⟩ := (show ObjOk X.prog X.w H s.heap a (.dK []) from I.hok a _ h)
    have e0 : vs = [] := by
      cases kv
      rfl
    subst e0
    have e1 : es.toList = [] := by
      have z := h4.2.1
      cases hz : es.toList with
      | nil => rfl
      | cons y l =>
        rw [hz] at z
        cases z
    have hne : a ≠ sysModules := by simpa using hsy
    exact fin (.dict []) a _ rfl (Reads.dict (kvs := []) (as := []) (bs := []) h1 h2.1 h3 (by rw [e1]; exact .nil) (by rw [e1]; exact .nil)) (by decide) (fun _ z => by simp at z; exact hne z.symm) (by decide) (by decide +kernel) (.inr (.inr (.inr ⟨h, rfl⟩)))
end
theorem SaysT.one {H : Hp} {v : V} {y y' : Str} (h : SaysT H v y) (h' : SaysT H v y') : y = y' := by
  cases v with
  | ref a =>
    rcases h with ⟨h, rfl⟩ | ⟨h, rfl⟩ | ⟨⟨b, h⟩, rfl⟩ | ⟨h, rfl⟩ <;> rcases h' with ⟨h', rfl⟩ | ⟨h', rfl⟩ | ⟨⟨b', h'⟩, rfl⟩ | ⟨h', rfl⟩ <;> first | rfl | (rw [h] at h'; cases h')
  | non => exact h.trans h'.symm
  | bl b => exact h.trans h'.symm
  | int i => exact h.trans h'.symm
  | str x => exact h.trans h'.symm
  | byt x => exact False.elim h
  | flt x => exact False.elim h
  | ty n => exact False.elim h
/-- whether it is a bool, for isinstance -/
theorem Thing.bool {K : PySem.W.Frag} {H : Hp} {v : V} (h : Thing H v) : ∃ (t : Value) (b : Bool), TyX K H v t ∧ PySem.W.kitOne K t (.type "bool") = some b := by
  cases h with
  | non => exact ⟨_, false, .base .non, kit_ty (by decide +kernel)⟩
  | int i hi => exact ⟨_, false, .base (.int i), kit_ty (by decide +kernel)⟩
  | str x hx => exact ⟨_, false, .base (.str x), kit_ty (by decide +kernel)⟩
  | bl b => exact ⟨_, true, .base (.bl b), kit_ty (by decide +kernel)⟩
  | lst0 a h => exact ⟨_, false, .base (.lst h), kit_ty (by decide +kernel)⟩
  | lst1 a h => exact ⟨_, false, .base (.lst h), kit_ty (by decide +kernel)⟩
  | tup a b h h' => exact ⟨_, false, .base (.tup h), kit_ty (by decide +kernel)⟩
  | map0 a h => exact ⟨_, false, .base (.dK h), kit_ty (by decide +kernel)⟩
end Sup

set_option Elab.async false
set_option linter.all false
set_option maxRecDepth 100000
set_option maxHeartbeats 4000000
namespace Pf
open PySem L2
def top (i : Nat) : Stmt := PySem.Challenge.pw_planfirst_k06_errors_by_hand.main.body.getD i (.Pass ⟨0, 0, 0, 0⟩)
abbrev sWell : Stmt := top 28
abbrev sDraw : Stmt := top 29
abbrev sOne : Stmt := top 30

/-! ### drawn numbers -/
/-- a well stands at a: three whole numbers, drawn z times -/
def WellAt (H : Hp) (a : Addr) (z : Int) : Prop := ∃ x y : Int, H a = some (.lst [.int x, .int y, .int z]) ∧ 0 ≤ y ∧ y < 2147483647
/-- all that was tracked, but at a, is as it was -/
def But (a : Addr) (H H' : Hp) : Prop := ∀ b o, H b = some o → b ≠ a → H' b = some o
theorem But.upd {H : Hp} {a : Addr} {o : HO} : But a H (upd H a o) := fun b u e hb => (upd_ne hb).trans e
theorem But.new {H H1 : Hp} {a l : Addr} {o : HO} (k : But a H H1) (hl : H1 l = none) : But a H (L2.upd H1 l o) := fun b u e hb => (upd_ne (ne_of_none (k b u e hb) hl)).trans (k b u e hb)
structure TxtN (mg : Str → Option Value) : Prop where
  int : mg "int" = none
  len : mg "len" = none
def spWell : Sp := fun vs H Q _ => ∃ (c : Int), vs = [.int c] ∧ ∀ (p : Addr) (o : HO), H p = none → WellAt (upd H p o) p 0 → Q (.ref p) (upd H p o)
def spDraw : Sp := fun vs H Q _ => ∃ (a : Addr) (n z : Int), vs = [.ref a, .int n] ∧ WellAt H a z ∧ 0 < n ∧ n < 1000000 ∧ 0 ≤ z ∧ z < 1000000 ∧
  ∀ (d z' : Int) (H' : Hp), 0 ≤ d → d < n → z ≤ z' → z' ≤ z + 1 → WellAt H' a z' → But a H H' → Q (.int d) H'
def spOne (K : PySem.W.Frag) : Sp := fun vs H Q _ => ∃ (a l : Addr) (z : Int) (xs : List V), vs = [.ref a, .ref l] ∧ WellAt H a z ∧ H l = some (.lst xs) ∧ l ≠ a ∧ 0 < xs.length ∧ xs.length < 1000000 ∧ 0 ≤ z ∧ z < 1000000 ∧
  ∀ (v : V) (z' : Int) (H' : Hp), v ∈ xs → z ≤ z' → z' ≤ z + 1 → WellAt H' a z' → But a H H' → Q v H'
section
variable {P : Program} {w : World} {K : PySem.W.Frag} {mg : Str → Option Value} {base : Heap}
theorem scWell : FnScope ["_law_cell"] ["_law_cell"] (defScope sWell) := ⟨rfl, rfl, rfl, by decide +kernel, rfl, by decide +kernel, by decide +kernel⟩
theorem scDraw : FnScope ["_law_well_here", "_law_below", "_law_digit", "_law_prime", "_law_number"] ["_law_well_here", "_law_below"] (defScope sDraw) := ⟨rfl, rfl, rfl, by decide +kernel, rfl, by decide +kernel, by decide +kernel⟩
theorem scOne : FnScope ["_law_well_here", "_law_some"] ["_law_well_here", "_law_some"] (defScope sOne) := ⟨rfl, rfl, rfl, by decide +kernel, rfl, by decide +kernel, by decide +kernel⟩

theorem ok_well {f : Addr} {fd : FuncData} (F : Fun K "_law_well" "_law_well" sWell f fd) (T : TxtN mg) : FnOk P w K mg base CX0 1 f fd ["_law_cell"] spWell := by
  refine F.ok scWell (fun vs H Q E h => ?_) (fun cdv A outer s H vs Q E hr h => ?_)
  · obtain ⟨c, rfl, _⟩ := h
    rfl
  · obtain ⟨c, rfl, k⟩ := h
    refine ⟨_, pss_one (ps_ret (pe_lst (pa_cons
      (pe_op op_mul (pv 0) (pe_callTy call_int1 (by rfl) T.int (by decide +kernel) (pa_cons (pe_cmpR op_ge (pv 0) (pe_op op_pow pe_int pe_int) (nomark _)) pa_nil)))
      (pa_cons (pe_op op_mod (pe_callTy call_int1 (by rfl) T.int (by decide +kernel) (pa_cons (pv 0) pa_nil)) pe_int) (pa_cons pe_int pa_nil))))), ?_⟩
    refine ⟨_, rfl, _, rfl, _, _, rfl, rfl, ⟨by decide, by decide, by decide⟩, _, _, rfl, rfl, .inr ⟨_, rfl, ?_⟩⟩
    refine ⟨_, _, rfl, rfl, .inr (by split <;> decide), _, rfl, .inl ⟨_, rfl, _, _, rfl, rfl, (by show (0 : Int) < 2147483647; decide), ?_⟩⟩
    refine ⟨by show 3 ≤ sizeLine; decide, fun p hp => ?_⟩
    exact k p _ hp ⟨_, _, upd_same, Int.emod_nonneg _ (by decide), Int.emod_lt_of_pos _ (by decide)⟩
theorem pow5_ok {b : Int} (h0 : 0 ≤ b) (h : b < 100000000000) : CPow b 5 := ⟨by decide, by decide, by
  have : b.natAbs < 100000000000 := by omega
  exact Nat.lt_trans this (by decide)⟩
theorem primes_get {i : Int} (h0 : 0 ≤ i) (h : i < 7) : ∃ p : Int, atI [V.int 2147483647, V.int 2147483629, V.int 2147483587, V.int 2147483579, V.int 2147483563, V.int 2147483549, V.int 2147483543] i = some (V.int p) ∧ 0 < p ∧ p ≤ 2147483647 := by
  have hi : i = 0 ∨ i = 1 ∨ i = 2 ∨ i = 3 ∨ i = 4 ∨ i = 5 ∨ i = 6 := by omega
  rcases hi with rfl | rfl | rfl | rfl | rfl | rfl | rfl <;> exact ⟨_, rfl, by decide, by decide⟩
theorem ok_draw {f : Addr} {fd : FuncData} (F : Fun K "_law_draw" "_law_draw" sDraw f fd) (T : TxtN mg) : FnOk P w K mg base CX0 1 f fd ["_law_well_here", "_law_below"] spDraw := by
  refine F.ok scDraw (fun vs H Q E h => ?_) (fun cdv A outer s H vs Q E hr h => ?_)
  · obtain ⟨a, n, z, rfl, _⟩ := h
    rfl
  · obtain ⟨a, n, z, rfl, ⟨x, y, ha, hy0, hy1⟩, hn0, hn1, hz0, hz1, k⟩ := h
    refine ⟨_, pss_cons (ps_if (pt_cmpR op_gt (pe_ix ix_list (pv 0) pe_int (fun _ _ => rfl)) pe_int (nomark _))
        (pss_cons (ps_set (i := 2) scDraw.nd rfl (Or.inl rfl) (pe_op op_mod (pe_callTy call_int1 (by rfl) T.int (by decide +kernel) (pa_cons (pe_ix ix_list (pv 0) pe_int (fun _ _ => rfl)) pa_nil)) (pv 1)))
        (pss_cons (ps_asg (pe_op op_fdivW (pe_ix ix_list (pv 0) pe_int (fun _ _ => rfl)) (pv 1)) (pg_sub (pv 0) pe_int set_list))
        (pss_one (ps_ret (pv 2)))))
        pss_nil)
      (pss_cons (ps_asg (pe_op op_add (pe_ix ix_list (pv 0) pe_int (fun _ _ => rfl)) pe_int) (pg_sub (pv 0) pe_int set_list))
      (pss_cons (ps_set (i := 3) scDraw.nd rfl (Or.inl rfl) (pe_ix ix_list (pe_lst (pa_cons pe_int (pa_cons pe_int (pa_cons pe_int (pa_cons pe_int (pa_cons pe_int (pa_cons pe_int (pa_cons pe_int pa_nil))))))))
          (pe_op op_mod (pe_callTy call_int1 (by rfl) T.int (by decide +kernel) (pa_cons (pe_ix ix_list (pv 0) pe_int (fun _ _ => rfl)) pa_nil)) pe_int) (fun _ _ => rfl)))
      (pss_cons (ps_set (i := 4) scDraw.nd rfl (Or.inl rfl) (pe_op op_mod (pe_callTy call_int1 (by rfl) T.int (by decide +kernel) (pa_cons
          (pe_op op_pow (pe_op op_add (pe_op op_add (pe_ix ix_list (pv 0) pe_int (fun _ _ => rfl)) (pe_op op_mul pe_int (pe_ix ix_list (pv 0) pe_int (fun _ _ => rfl)))) pe_int) pe_int) pa_nil)) (pv 3)))
      (pss_cons (ps_set (i := 4) scDraw.nd rfl (Or.inl rfl) (pe_op op_mod (pe_callTy call_int1 (by rfl) T.int (by decide +kernel) (pa_cons
          (pe_op op_mul (pe_op op_add (pv 4) (pe_ix ix_list (pv 0) pe_int (fun _ _ => rfl))) (pe_op op_add (pe_op op_fdiv (pv 4) pe_int) pe_int)) pa_nil)) (pv 3)))
      (pss_one (ps_ret (pe_op op_mod (pe_callTy call_int1 (by rfl) T.int (by decide +kernel) (pa_cons (pe_op op_fdiv (pv 4) pe_int) pa_nil)) (pv 1)))))))), ?_⟩
    refine ⟨_, rfl, a, _, _, _, rfl, rfl, SqL.of ha, atI_nat (j := 0) rfl, _, _, rfl, rfl, _, rfl, ?_⟩
    refine ite2 (fun hx => ?_) fun hx => ?_
    · have hx : 0 < x := of_decide_eq_true hx
      refine ⟨_, rfl, a, _, _, _, rfl, rfl, SqL.of ha, atI_nat (j := 0) rfl, .inl ⟨_, rfl, _, rfl, _, _, rfl, rfl, hn0, ?_⟩⟩
      refine ⟨_, rfl, a, _, _, _, rfl, rfl, SqL.of ha, atI_nat (j := 0) rfl, _, rfl, _, _, rfl, rfl, wide_div hn0 (b := 20) (by omega) (by decide) (by decide), ?_⟩
      refine ⟨_, rfl, a, _, _, _, rfl, rfl, ha, rfl, ?_⟩
      refine ⟨_, rfl, ?_⟩
      exact k _ z _ (Int.emod_nonneg _ (by omega)) (Int.emod_lt_of_pos _ hn0) (by omega) (by omega) ⟨x / n, y, upd_same, hy0, hy1⟩ But.upd
    · refine ⟨_, rfl, a, _, _, _, rfl, rfl, SqL.of ha, atI_nat (j := 2) rfl, _, _, rfl, rfl, ?_⟩
      refine ⟨_, rfl, a, _, _, _, rfl, rfl, ha, rfl, ?_⟩
      have hb : upd H a (.lst [.int x, .int y, .int (z + 1)]) a = some (.lst [.int x, .int y, .int (z + 1)]) := upd_same
      obtain ⟨p, hp, hp0, hp1⟩ := primes_get (i := (z + 1) % 7) (Int.emod_nonneg _ (by decide)) (Int.emod_lt_of_pos _ (by decide))
      refine ⟨by show 7 ≤ sizeLine; decide, fun l hl => ?_⟩
      have hal : a ≠ l := ne_of_none hb hl
      have hc : upd (upd H a (.lst [.int x, .int y, .int (z + 1)])) l (.lst [V.int 2147483647, V.int 2147483629, V.int 2147483587, V.int 2147483579, V.int 2147483563, V.int 2147483549, V.int 2147483543]) a = some (.lst [.int x, .int y, .int (z + 1)]) := (upd_ne hal).trans hb
      refine ⟨_, rfl, a, _, _, _, rfl, rfl, SqL.of hc, atI_nat (j := 2) rfl, .inl ⟨_, rfl, _, _, rfl, rfl, (by show (0 : Int) < 7; decide), l, _, _, _, rfl, rfl, SqL.of upd_same, hp, ?_⟩⟩
      refine ⟨_, rfl, a, _, _, _, rfl, rfl, SqL.of hc, atI_nat (j := 1) rfl, _, rfl, a, _, _, _, rfl, rfl, SqL.of hc, atI_nat (j := 2) rfl, _, _, rfl, rfl, .inl ⟨by decide, by decide⟩, _, _, rfl, rfl, _, _, rfl, rfl, ?_⟩
      refine ⟨_, _, rfl, rfl, pow5_ok (by omega) (by omega), .inl ⟨_, rfl, _, rfl, _, _, rfl, rfl, hp0, ?_⟩⟩
      generalize hq : ((y + 7919 * (z + 1) + 1) ^ (Int.toNat 5)) % p = q
      have q0 : 0 ≤ q := by rw [← hq]; exact Int.emod_nonneg _ (by omega)
      have q1 : q < p := by rw [← hq]; exact Int.emod_lt_of_pos _ hp0
      refine ⟨_, rfl, _, rfl, a, _, _, _, rfl, rfl, SqL.of hc, atI_nat (j := 2) rfl, _, _, rfl, rfl, _, rfl, _, _, rfl, rfl, ⟨by decide, by decide⟩, _, _, rfl, rfl, ?_⟩
      refine ⟨_, _, rfl, rfl, .inl ⟨by omega, by omega⟩, .inl ⟨_, rfl, _, rfl, _, _, rfl, rfl, hp0, ?_⟩⟩
      refine ⟨_, rfl, _, _, rfl, rfl, ⟨by decide, by decide⟩, .inl ⟨_, rfl, _, rfl, _, _, rfl, rfl, hn0, ?_⟩⟩
      exact k _ (z + 1) _ (Int.emod_nonneg _ (by omega)) (Int.emod_lt_of_pos _ hn0) (by omega) (by omega) ⟨x, y, hc, hy0, hy1⟩ (But.upd.new hl)
theorem ok_one {f fD fL : Addr} {fd fdD : FuncData} (F : Fun K "_law_one" "_law_one" sOne f fd) (T : TxtN mg) (FD : Fun K "_law_draw" "_law_draw" sDraw fD fdD) (bD : Binds K fdD ["_law_well_here", "_law_below"] []) (gD : mg "_law_draw" = some (.ref fD)) :
    FnOk P w K mg base CX0 2 f fd ["_law_well_here", "_law_some"] (spOne K) := by
  have GD : FnOk P w K mg base CX0 1 fD fdD ["_law_well_here", "_law_below"] spDraw := ok_draw FD T
  refine F.ok scOne (fun vs H Q E h => ?_) (fun cdv A outer s H vs Q E hr h => ?_)
  · obtain ⟨a, l, z, xs, rfl, _⟩ := h
    rfl
  · obtain ⟨a, l, z, xs, rfl, ha, hl, hal, hx0, hx1, hz0, hz1, k⟩ := h
    refine ⟨_, pss_one (ps_ret (pe_ix ix_list (pv 1) (pe_call GD hr rfl gD FD.kp bD .nil pass0 (pa_cons (pv 0) (pa_cons (pe_callB call_len_seq (by rfl) T.len PySem.boot_len (pa_cons (pv 1) pa_nil)) pa_nil))) (fun _ _ => rfl))), ?_⟩
    refine ⟨_, rfl, _, rfl, _, rfl, l, _, rfl, .inl (SqL.of hl), a, _, z, rfl, ha, by omega, by omega, hz0, hz1, fun d z' H' hd0 hd1 hz2 hz3 hw hk => ?_⟩
    obtain ⟨j, ej⟩ : ∃ j : Nat, d = (j : Int) := ⟨d.toNat, by omega⟩
    have hj : j < xs.length := by omega
    exact ⟨l, xs, _, xs[j], rfl, rfl, SqL.of (hk _ _ hl hal), at_of ej (List.getElem?_eq_getElem hj), k _ z' _ (List.getElem_mem hj) hz2 hz3 hw hk⟩
end
end Pf

set_option Elab.async false
set_option linter.all false
set_option maxRecDepth 100000
set_option maxHeartbeats 4000000
namespace Pf
open PySem PySem.Spec PyProof.Rows L2 Sup
abbrev sFirst : Stmt := top 31
abbrev sOthers : Stmt := top 32
abbrev sKinds : Stmt := top 33
abbrev sLaw : Stmt := top 34

/-- a class of errors as the walk uses it: x its name, n the number of its arguments, fs its attributes -/
structure Mak (P : Program) (w : World) (K : PySem.W.Frag) (mg : Str → Option Value) (base : Heap) (x : Str) (C : Addr) (n : Nat) (fs : List Str) : Prop where
  oex : OexC K C
  ini : ∃ fI, PySem.W.findIn K (.ref C) "__init__" = some (some (.ref fI)) ∧ PySem.W.typeIn K (.ref fI) = some (.type "function") ∧ FnR P w K mg base CX0 3 fI (spErr C n fs)
  gm : mg x = some (.ref C)
  ec : ErrC K C
  no : ∀ f ∈ fs, PySem.W.findIn K (.ref C) f = some none
theorem pe_mak {X : Cx} {x : Str} {C : Addr} {n : Nat} {fs : List Str} {e : Expr} {es : List Expr} {ta : TA} {p pos : Pos} (M : Mak X.prog X.w X.K X.mg X.base x C n fs) (hn : n ≤ 1000) (hr : Room 4 X.A) (hg : Gl X x) (ha : PA X (e :: es) ta)
    (hdb : (x == ("__debug__" : Str)) = false := by decide) (he : starEach (e :: es) X.env = (false, eval e X.env) :: starEach es X.env := by rfl)
        (hpl : (backTo pos (starEach es X.env)).any (·.1) = false := by rfl) :
    PE X (.Call (.Name x p) (e :: es) [] pos) (tErr C n fs ta) := by
  obtain ⟨fI, iC, tI, F1⟩ := M.ini
  exact pe_err M.oex iC tI F1 hn hr hg M.gm ha hdb he hpl

/-- a line (error, what it kept) at r -/
def LineAt (H : Hp) (C : Addr) (v r : V) : Prop := ∃ (t e : Addr) (fs : List (Str × V)) (vs : List V), r = .ref t ∧ H t = some (.tup [.ref e, v]) ∧ ErrAt H e C fs vs
theorem LineAt.same {H H' : Hp} {C : Addr} {v r : V} (h : LineAt H C v r) (k : Same H H') : LineAt H' C v r := by
  obtain ⟨t, e, fs, vs, rfl, h1, h2⟩ := h
  exact ⟨t, e, fs, vs, rfl, k _ _ h1, h2.same k⟩
abbrev Lines (H : Hp) (v : V) (Cs : List Addr) (rs : List V) : Prop := Paired (fun C r => LineAt H C v r) Cs rs
theorem Lines.same {H H' : Hp} {v : V} {Cs : List Addr} {rs : List V} (h : Lines H v Cs rs) (k : Same H H') : Lines H' v Cs rs := Paired.mapP h fun _ _ z => z.same k
theorem Lines.append {H : Hp} {v : V} : ∀ {Cs Ds : List Addr} {rs qs : List V}, Lines H v Cs rs → Lines H v Ds qs → Lines H v (Cs ++ Ds) (rs ++ qs)
  | _, _, _, _, .nil, s => s
  | _, _, _, _, .cons r t, s => .cons r (Lines.append t s)
theorem Same.upd {H H1 : Hp} {p : Addr} {o : HO} (k : Same H H1) (hp : H1 p = none) : Same H (L2.upd H1 p o) := fun b u e => (upd_ne (ne_of_none (k b u e) hp)).trans (k b u e)
/-- what is new behind was new ahead -/
theorem Same.free' {H H' : Hp} {p l : Addr} {o : HO} (_e : Same H (L2.upd H' p o)) (h : H' p = none) (k : Same H H') : H p = none := k.free h
theorem sm_upd {H : Hp} {p : Addr} {o : HO} (hp : H p = none) : Same H (upd H p o) := Same.upd (Same.refl H) hp

def spLines (Cs : List Addr) : Sp := fun vs H Q _ => ∃ v, vs = [v] ∧ ∀ (l : Addr) (rs : List V) (H' : Hp), H l = none → Same H H' → H' l = some (.lst rs) → Lines H' v Cs rs → Q (.ref l) H'

theorem rr (a : Addr) : RelV (.ref a) (.ref a) := rfl
/-! ### readings of many at once -/
abbrev tMakes : List (Addr × Str) → TA
  | [] => tNil
  | (C, f) :: r => tCons (tErr C 1 [f] (tCons (tVar 0) tNil)) (tMakes r)
theorem rd_makes {σ : L2.St} {v : V} (sp : List (Addr × Str)) (hσ : σ[0]? = some (some v)) {H : Hp} {Q : List V → Hp → Prop}
    (q : ∀ es H', Same H H' → Paired (fun (x : Addr × Str) r => ∃ e, r = V.ref e ∧ ErrAt H' e x.1 [(x.2, v)] [v]) sp es → Q es H') : tMakes sp σ H Q := by
  induction sp generalizing H Q with
  | nil => exact q [] H (Same.refl H) .nil
  | cons x r ih =>
    obtain ⟨C, f⟩ := x
    refine ⟨v, hσ, rfl, fun a H1 _ k1 er => ih fun es H2 k2 ps => ?_⟩
    exact q _ H2 (Same.trans k1 k2) (.cons ⟨a, rfl, ErrAt.same er k2⟩ ps)
theorem paired4 {α β : Type} {R : α → β → Prop} {a b c d : α} {l : List β} (h : Paired R [a, b, c, d] l) : ∃ w x y z, l = [w, x, y, z] ∧ R a w ∧ R b x ∧ R c y ∧ R d z := by
  cases h with
  | cons h1 h => cases h with
    | cons h2 h => cases h with
      | cons h3 h => cases h with
        | cons h4 h => cases h; exact ⟨_, _, _, _, rfl, h1, h2, h3, h4⟩
abbrev tLines (K : PySem.W.Frag) : List (Addr × Nat × Str) → TA
  | [] => tNil
  | (_, i, f) :: r => tCons (tTup (tCons (tVar i) (tCons (tXat K f (tVar i)) tNil))) (tLines K r)
def AllP {α : Type} (R : α → Prop) : List α → Prop
  | [] => True
  | x :: r => R x ∧ AllP R r
theorem AllP.imp {α : Type} {R S : α → Prop} (k : ∀ x, R x → S x) : ∀ {l : List α}, AllP R l → AllP S l
  | [], _ => True.intro
  | _ :: _, h => ⟨k _ h.1, AllP.imp k h.2⟩
/-- what is asked of each: its error stands in the slot and has the attribute with the value v -/
def HasA (K : PySem.W.Frag) (σ : L2.St) (H : Hp) (v : V) (x : Addr × Nat × Str) : Prop := ∃ e fs vs, σ[x.2.1]? = some (some (V.ref e)) ∧ ErrC K x.1 ∧ PySem.W.findIn K (.ref x.1) x.2.2 = some none ∧ ErrAt H e x.1 fs vs ∧ fs.lookup x.2.2 = some v
theorem rd_lines {K : PySem.W.Frag} {σ : L2.St} {v : V} (sp : List (Addr × Nat × Str)) {H : Hp} {Q : List V → Hp → Prop} (ps : AllP (HasA K σ H v) sp)
    (q : ∀ rs H', Same H H' → Lines H' v (sp.map (·.1)) rs → Q rs H') : tLines K sp σ H Q := by
  induction sp generalizing H Q with
  | nil => exact q [] H (Same.refl H) .nil
  | cons x r ih =>
    obtain ⟨C, i, f⟩ := x
    obtain ⟨⟨e, fs, vs, hσ, T, no, er, lk⟩, ps⟩ := ps
    refine ⟨_, hσ, _, hσ, e, C, fs, vs, v, rfl, T, no, er, lk, by show 2 ≤ sizeLine; decide, fun t ht => ?_⟩
    have k1 : Same H (upd H t (.tup [.ref e, v])) := sm_upd ht
    refine ih (AllP.imp (fun a ⟨e', fs', vs', h1, h2, h3, h4, h5⟩ => ⟨e', fs', vs', h1, h2, h3, ErrAt.same h4 k1, h5⟩) ps) fun rs H' k2 ls => ?_
    exact q _ H' (Same.trans k1 k2) (.cons (LineAt.same ⟨t, e, fs, vs, rfl, upd_same, ErrAt.same er k1⟩ k2) ls)
/-- (C1(x), C2(x), ..), x the name in slot 0: a tuple of new errors -/
def tMk4 (sp : List (Addr × Str)) : TE := fun σ H Q => ∃ v, σ[0]? = some (some v) ∧ sp.length ≤ sizeLine ∧ ∀ p es H', Same H H' → H' p = some (.tup es) → Paired (fun (x : Addr × Str) r => ∃ e, r = V.ref e ∧ ErrAt H' e x.1 [(x.2, v)] [v]) sp es → Q (.ref p) H'
theorem pe_makes {X : Cx} {es : List Expr} {k : Nat} {pos : Pos} (sp : List (Addr × Str)) (h : PA X es (tMakes sp)) : PE X (.Tuple es k pos) (tMk4 sp) := by
  refine ⟨fun pins s σ H Q I ⟨v, hσ, hl, q⟩ => (pe_tup h).run pins s σ H Q I (rd_makes sp hσ fun es H' k ps => ⟨?_, fun p hp => ?_⟩)⟩
  · rw [← Paired.length ps]
    exact hl
  · have u : Same H' (upd H' p (.tup es)) := sm_upd hp
    exact q p es _ (Same.trans k u) upd_same (Paired.mapP ps fun _ _ ⟨e, h1, h2⟩ => ⟨e, h1, ErrAt.same h2 u⟩)
/-- [(x1, x1.f), ..]: a list of lines -/
def tLn (K : PySem.W.Frag) (sp : List (Addr × Nat × Str)) : TE := fun σ H Q => ∃ v, AllP (HasA K σ H v) sp ∧ sp.length ≤ sizeLine ∧
  ∀ l rs H', Same H H' → H' l = some (.lst rs) → rs.length = sp.length → Lines H' v (sp.map (·.1)) rs → Q (.ref l) H'
theorem pe_lines {X : Cx} {es : List Expr} {pos : Pos} (sp : List (Addr × Nat × Str)) (h : PA X es (tLines X.K sp)) : PE X (.List es pos) (tLn X.K sp) := by
  refine ⟨fun pins s σ H Q I ⟨v, ps, hl, q⟩ => (pe_lst h).run pins s σ H Q I (rd_lines sp ps fun rs H' k ls => ?_)⟩
  have n : rs.length = sp.length := by rw [← Paired.length ls, List.length_map]
  refine ⟨by rw [n]; exact hl, fun l hl => ?_⟩
  have u : Same H' (upd H' l (.lst rs)) := sm_upd hl
  exact q l rs _ (Same.trans k u) upd_same n (Lines.same ls u)
section
variable {P : Program} {w : World} {K : PySem.W.Frag} {mg : Str → Option Value} {base : Heap}
/-- all classes, by their numbers -/
structure Maks (P : Program) (w : World) (K : PySem.W.Frag) (mg : Str → Option Value) (base : Heap) (Cs : Nat → Addr) (B : Addr) : Prop where
  m0 : Mak P w K mg base "Misfit" (Cs 0) 1 ["expression"]
  m1 : Mak P w K mg base "NoKind" (Cs 1) 1 ["part"]
  m2 : Mak P w K mg base "NoConfig" (Cs 2) 1 ["at"]
  m3 : Mak P w K mg base "NoValue" (Cs 3) 1 ["param"]
  m4 : Mak P w K mg base "Unsure" (Cs 4) 1 ["address"]
  m5 : Mak P w K mg base "BadMany" (Cs 5) 1 ["address"]
  m6 : Mak P w K mg base "Refused" (Cs 6) 1 ["addresses"]
  m7 : Mak P w K mg base "Ring" (Cs 7) 1 ["steps"]
  m8 : Mak P w K mg base "Taken" (Cs 8) 1 ["tag"]
  m9 : Mak P w K mg base "Gone" (Cs 9) 1 ["tag"]
  m10 : Mak P w K mg base "InUse" (Cs 10) 1 ["tag"]
  m11 : Mak P w K mg base "Occupied" (Cs 11) 1 ["address"]
  m12 : Mak P w K mg base "Owned" (Cs 12) 1 ["address"]
  m13 : Mak P w K mg base "NotThere" (Cs 13) 1 ["address"]
  m14 : Mak P w K mg base "Locked" (Cs 14) 1 ["holder"]
  m15 : Mak P w K mg base "Stale" (Cs 15) 1 ["serial"]
  m16 : Mak P w K mg base "NotGeneric" (Cs 16) 1 ["address"]
  m17 : Mak P w K mg base "BadConfig" (Cs 17) 2 ["at", "why"]
  m18 : Mak P w K mg base "Lacking" (Cs 18) 2 ["address", "attribute"]
  m19 : Mak P w K mg base "BadOrder" (Cs 19) 1 []
  m20 : Mak P w K mg base "BadSteps" (Cs 20) 1 []
  ec : ∀ i, i < 21 → ErrC K (Cs i)
  kit : ∀ i j, i < 21 → j < 21 → PySem.W.kitOne K (.ref (Cs i)) (.ref (Cs j)) = some (decide (i = j))
  kitB : ∀ i, i < 21 → PySem.W.kitOne K (.ref (Cs i)) (.ref B) = some true
  kitV : ∀ i, i < 21 → PySem.W.kitOne K (.ref (Cs i)) (.type "ValueError") = some true
  gB : mg "PlanError" = some (.ref B)
  gt : GetC K
  isi : mg "isinstance" = none
  ve : mg "ValueError" = none
theorem scFirst : FnScope ["_law_thing", "_law_one_here", "_law_two", "_law_three", "_law_four", "_law_found"] ["_law_thing"] (defScope sFirst) := ⟨rfl, rfl, rfl, by decide +kernel, rfl, by decide +kernel, by decide +kernel⟩
theorem ok_first {f B : Addr} {Cs : Nat → Addr} {fd : FuncData} (F : Fun K "_law_first" "_law_first" sFirst f fd) (M : Maks P w K mg base Cs B) :
    FnOk P w K mg base CX0 5 f fd ["_law_thing"] (spLines [Cs 0, Cs 1, Cs 2, Cs 3, Cs 4, Cs 5, Cs 6, Cs 7]) := by
  refine F.ok scFirst (fun vs H Q E h => ?_) (fun cdv A outer s H vs Q E hr h => ?_)
  · obtain ⟨v, rfl, _⟩ := h
    rfl
  · obtain ⟨v, rfl, k⟩ := h
    refine ⟨_, (pss_cons (ps_asg (pe_makes [(Cs 0, "expression"), (Cs 1, "part"), (Cs 2, "at"), (Cs 3, "param")] (pa_cons (pe_mak M.m0 (by decide) hr rfl (pa_cons (pv 0) pa_nil)) (pa_cons (pe_mak M.m1 (by decide) hr rfl (pa_cons (pv 0) pa_nil)) (pa_cons (pe_mak M.m2 (by decide) hr rfl (pa_cons (pv 0) pa_nil)) (pa_cons (pe_mak M.m3 (by decide) hr rfl (pa_cons (pv 0) pa_nil)) pa_nil))))) (pg_tup rfl (pgs_cons (pg_name (i := 1) scFirst.nd rfl (Or.inl rfl)) (pgs_cons (pg_name (i := 2) scFirst.nd rfl (Or.inl rfl)) (pgs_cons (pg_name (i := 3) scFirst.nd rfl (Or.inl rfl)) (pgs_cons (pg_name (i := 4) scFirst.nd rfl (Or.inl rfl)) pgs_nil))))))
        (pss_cons (ps_set (i := 5) scFirst.nd rfl (Or.inl rfl) (pe_lines [(Cs 0, 1, "expression"), (Cs 1, 2, "part"), (Cs 2, 3, "at"), (Cs 3, 4, "param")] (pa_cons (pe_tup (pa_cons (pv 1) (pa_cons (pe_xat (pv 1)) pa_nil))) (pa_cons (pe_tup (pa_cons (pv 2) (pa_cons (pe_xat (pv 2)) pa_nil))) (pa_cons (pe_tup (pa_cons (pv 3) (pa_cons (pe_xat (pv 3)) pa_nil))) (pa_cons (pe_tup (pa_cons (pv 4) (pa_cons (pe_xat (pv 4)) pa_nil))) pa_nil))))))
        (pss_cons (ps_asg (pe_makes [(Cs 4, "address"), (Cs 5, "address"), (Cs 6, "addresses"), (Cs 7, "steps")] (pa_cons (pe_mak M.m4 (by decide) hr rfl (pa_cons (pv 0) pa_nil)) (pa_cons (pe_mak M.m5 (by decide) hr rfl (pa_cons (pv 0) pa_nil)) (pa_cons (pe_mak M.m6 (by decide) hr rfl (pa_cons (pv 0) pa_nil)) (pa_cons (pe_mak M.m7 (by decide) hr rfl (pa_cons (pv 0) pa_nil)) pa_nil))))) (pg_tup rfl (pgs_cons (pg_name (i := 1) scFirst.nd rfl (Or.inl rfl)) (pgs_cons (pg_name (i := 2) scFirst.nd rfl (Or.inl rfl)) (pgs_cons (pg_name (i := 3) scFirst.nd rfl (Or.inl rfl)) (pgs_cons (pg_name (i := 4) scFirst.nd rfl (Or.inl rfl)) pgs_nil))))))
        (pss_one (ps_ret (pe_op op_cat (pv 5) (pe_lines [(Cs 4, 1, "address"), (Cs 5, 2, "address"), (Cs 6, 3, "addresses"), (Cs 7, 4, "steps")] (pa_cons (pe_tup (pa_cons (pv 1) (pa_cons (pe_xat (pv 1)) pa_nil))) (pa_cons (pe_tup (pa_cons (pv 2) (pa_cons (pe_xat (pv 2)) pa_nil))) (pa_cons (pe_tup (pa_cons (pv 3) (pa_cons (pe_xat (pv 3)) pa_nil))) (pa_cons (pe_tup (pa_cons (pv 4) (pa_cons (pe_xat (pv 4)) pa_nil))) pa_nil))))))))))), ?_⟩
    refine ⟨v, rfl, by show 4 ≤ sizeLine; decide, fun p1 es1 H1 k1 hp1 m1 => ?_⟩
    obtain ⟨_, _, _, _, rfl, ⟨e0, rfl, r0⟩, ⟨e1, rfl, r1⟩, ⟨e2, rfl, r2⟩, ⟨e3, rfl, r3⟩⟩ := paired4 m1
    refine ⟨p1, _, rfl, SqT.of hp1, rfl, _, _, rfl, _, _, rfl, _, _, rfl, _, _, rfl, rfl, ?_⟩
    refine ⟨v, ⟨⟨e0, _, _, rfl, M.ec 0 (by decide), M.m0.no _ (by simp), r0, rfl⟩, ⟨⟨e1, _, _, rfl, M.ec 1 (by decide), M.m1.no _ (by simp), r1, rfl⟩, ⟨⟨e2, _, _, rfl, M.ec 2 (by decide), M.m2.no _ (by simp), r2, rfl⟩, ⟨⟨e3, _, _, rfl, M.ec 3 (by decide), M.m3.no _ (by simp), r3, rfl⟩, True.intro⟩⟩⟩⟩, by show 4 ≤ sizeLine; decide, fun l2 rs2 H2 k2 hl2 n2 ls2 => ?_⟩
    refine ⟨v, rfl, by show 4 ≤ sizeLine; decide, fun p3 es3 H3 k3 hp3 m3 => ?_⟩
    obtain ⟨_, _, _, _, rfl, ⟨e4, rfl, r4⟩, ⟨e5, rfl, r5⟩, ⟨e6, rfl, r6⟩, ⟨e7, rfl, r7⟩⟩ := paired4 m3
    refine ⟨p3, _, rfl, SqT.of hp3, rfl, _, _, rfl, _, _, rfl, _, _, rfl, _, _, rfl, rfl, ?_⟩
    refine ⟨_, rfl, ?_⟩
    refine ⟨v, ⟨⟨e4, _, _, rfl, M.ec 4 (by decide), M.m4.no _ (by simp), r4, rfl⟩, ⟨⟨e5, _, _, rfl, M.ec 5 (by decide), M.m5.no _ (by simp), r5, rfl⟩, ⟨⟨e6, _, _, rfl, M.ec 6 (by decide), M.m6.no _ (by simp), r6, rfl⟩, ⟨⟨e7, _, _, rfl, M.ec 7 (by decide), M.m7.no _ (by simp), r7, rfl⟩, True.intro⟩⟩⟩⟩, by show 4 ≤ sizeLine; decide, fun l4 rs4 H4 k4 hl4 n4 ls4 => ?_⟩
    refine ⟨l2, l4, rs2, rs4, rfl, rfl, k4 _ _ (k3 _ _ hl2), hl4, by rw [n2, n4]; show 4 + 4 ≤ sizeLine; decide, fun l hl => ?_⟩
    have z : Same H2 (upd H4 l (.lst (rs2 ++ rs4))) := k3.trans (k4.trans (sm_upd hl))
    have z0 : Same H H4 := k1.trans (k2.trans (k3.trans k4))
    exact k l (rs2 ++ rs4) _ (z0.free hl) (Same.upd z0 hl) upd_same ((ls2.same z).append (ls4.same (sm_upd hl)))
theorem scOthers : FnScope ["_law_thing", "_law_one_here", "_law_two", "_law_three", "_law_four", "_law_found"] ["_law_thing"] (defScope sOthers) := ⟨rfl, rfl, rfl, by decide +kernel, rfl, by decide +kernel, by decide +kernel⟩
theorem ok_others {f B : Addr} {Cs : Nat → Addr} {fd : FuncData} (F : Fun K "_law_others" "_law_others" sOthers f fd) (M : Maks P w K mg base Cs B) :
    FnOk P w K mg base CX0 5 f fd ["_law_thing"] (spLines [Cs 8, Cs 9, Cs 10, Cs 11, Cs 12, Cs 13, Cs 14, Cs 15, Cs 16]) := by
  refine F.ok scOthers (fun vs H Q E h => ?_) (fun cdv A outer s H vs Q E hr h => ?_)
  · obtain ⟨v, rfl, _⟩ := h
    rfl
  · obtain ⟨v, rfl, k⟩ := h
    refine ⟨_, (pss_cons (ps_asg (pe_makes [(Cs 8, "tag"), (Cs 9, "tag"), (Cs 10, "tag"), (Cs 11, "address")] (pa_cons (pe_mak M.m8 (by decide) hr rfl (pa_cons (pv 0) pa_nil)) (pa_cons (pe_mak M.m9 (by decide) hr rfl (pa_cons (pv 0) pa_nil)) (pa_cons (pe_mak M.m10 (by decide) hr rfl (pa_cons (pv 0) pa_nil)) (pa_cons (pe_mak M.m11 (by decide) hr rfl (pa_cons (pv 0) pa_nil)) pa_nil))))) (pg_tup rfl (pgs_cons (pg_name (i := 1) scOthers.nd rfl (Or.inl rfl)) (pgs_cons (pg_name (i := 2) scOthers.nd rfl (Or.inl rfl)) (pgs_cons (pg_name (i := 3) scOthers.nd rfl (Or.inl rfl)) (pgs_cons (pg_name (i := 4) scOthers.nd rfl (Or.inl rfl)) pgs_nil))))))
        (pss_cons (ps_set (i := 5) scOthers.nd rfl (Or.inl rfl) (pe_lines [(Cs 8, 1, "tag"), (Cs 9, 2, "tag"), (Cs 10, 3, "tag"), (Cs 11, 4, "address")] (pa_cons (pe_tup (pa_cons (pv 1) (pa_cons (pe_xat (pv 1)) pa_nil))) (pa_cons (pe_tup (pa_cons (pv 2) (pa_cons (pe_xat (pv 2)) pa_nil))) (pa_cons (pe_tup (pa_cons (pv 3) (pa_cons (pe_xat (pv 3)) pa_nil))) (pa_cons (pe_tup (pa_cons (pv 4) (pa_cons (pe_xat (pv 4)) pa_nil))) pa_nil))))))
        (pss_cons (ps_asg (pe_makes [(Cs 12, "address"), (Cs 13, "address"), (Cs 14, "holder"), (Cs 15, "serial")] (pa_cons (pe_mak M.m12 (by decide) hr rfl (pa_cons (pv 0) pa_nil)) (pa_cons (pe_mak M.m13 (by decide) hr rfl (pa_cons (pv 0) pa_nil)) (pa_cons (pe_mak M.m14 (by decide) hr rfl (pa_cons (pv 0) pa_nil)) (pa_cons (pe_mak M.m15 (by decide) hr rfl (pa_cons (pv 0) pa_nil)) pa_nil))))) (pg_tup rfl (pgs_cons (pg_name (i := 1) scOthers.nd rfl (Or.inl rfl)) (pgs_cons (pg_name (i := 2) scOthers.nd rfl (Or.inl rfl)) (pgs_cons (pg_name (i := 3) scOthers.nd rfl (Or.inl rfl)) (pgs_cons (pg_name (i := 4) scOthers.nd rfl (Or.inl rfl)) pgs_nil))))))
        (pss_cons (ps_set (i := 5) scOthers.nd rfl (Or.inl rfl) (pe_op op_cat (pv 5) (pe_lines [(Cs 12, 1, "address"), (Cs 13, 2, "address"), (Cs 14, 3, "holder"), (Cs 15, 4, "serial")] (pa_cons (pe_tup (pa_cons (pv 1) (pa_cons (pe_xat (pv 1)) pa_nil))) (pa_cons (pe_tup (pa_cons (pv 2) (pa_cons (pe_xat (pv 2)) pa_nil))) (pa_cons (pe_tup (pa_cons (pv 3) (pa_cons (pe_xat (pv 3)) pa_nil))) (pa_cons (pe_tup (pa_cons (pv 4) (pa_cons (pe_xat (pv 4)) pa_nil))) pa_nil)))))))
        (pss_cons (ps_set (i := 1) scOthers.nd rfl (Or.inl rfl) (pe_mak M.m16 (by decide) hr rfl (pa_cons (pv 0) pa_nil)))
        (pss_one (ps_ret (pe_op op_cat (pv 5) (pe_lines [(Cs 16, 1, "address")] (pa_cons (pe_tup (pa_cons (pv 1) (pa_cons (pe_xat (pv 1)) pa_nil))) pa_nil)))))))))), ?_⟩
    refine ⟨v, rfl, by show 4 ≤ sizeLine; decide, fun p1 es1 H1 k1 hp1 m1 => ?_⟩
    obtain ⟨_, _, _, _, rfl, ⟨e8, rfl, r8⟩, ⟨e9, rfl, r9⟩, ⟨e10, rfl, r10⟩, ⟨e11, rfl, r11⟩⟩ := paired4 m1
    refine ⟨p1, _, rfl, SqT.of hp1, rfl, _, _, rfl, _, _, rfl, _, _, rfl, _, _, rfl, rfl, ?_⟩
    refine ⟨v, ⟨⟨e8, _, _, rfl, M.ec 8 (by decide), M.m8.no _ (by simp), r8, rfl⟩, ⟨⟨e9, _, _, rfl, M.ec 9 (by decide), M.m9.no _ (by simp), r9, rfl⟩, ⟨⟨e10, _, _, rfl, M.ec 10 (by decide), M.m10.no _ (by simp), r10, rfl⟩, ⟨⟨e11, _, _, rfl, M.ec 11 (by decide), M.m11.no _ (by simp), r11, rfl⟩, True.intro⟩⟩⟩⟩, by show 4 ≤ sizeLine; decide, fun l2 rs2 H2 k2 hl2 n2 ls2 => ?_⟩
    refine ⟨v, rfl, by show 4 ≤ sizeLine; decide, fun p3 es3 H3 k3 hp3 m3 => ?_⟩
    obtain ⟨_, _, _, _, rfl, ⟨e12, rfl, r12⟩, ⟨e13, rfl, r13⟩, ⟨e14, rfl, r14⟩, ⟨e15, rfl, r15⟩⟩ := paired4 m3
    refine ⟨p3, _, rfl, SqT.of hp3, rfl, _, _, rfl, _, _, rfl, _, _, rfl, _, _, rfl, rfl, ?_⟩
    refine ⟨_, rfl, ?_⟩
    refine ⟨v, ⟨⟨e12, _, _, rfl, M.ec 12 (by decide), M.m12.no _ (by simp), r12, rfl⟩, ⟨⟨e13, _, _, rfl, M.ec 13 (by decide), M.m13.no _ (by simp), r13, rfl⟩, ⟨⟨e14, _, _, rfl, M.ec 14 (by decide), M.m14.no _ (by simp), r14, rfl⟩, ⟨⟨e15, _, _, rfl, M.ec 15 (by decide), M.m15.no _ (by simp), r15, rfl⟩, True.intro⟩⟩⟩⟩, by show 4 ≤ sizeLine; decide, fun l4 rs4 H4 k4 hl4 n4 ls4 => ?_⟩
    refine ⟨l2, l4, rs2, rs4, rfl, rfl, k4 _ _ (k3 _ _ hl2), hl4, by rw [n2, n4]; show 4 + 4 ≤ sizeLine; decide, fun l5 hl5 => ?_⟩
    have u5 : Same H4 (upd H4 l5 (.lst (rs2 ++ rs4))) := sm_upd hl5
    refine ⟨v, rfl, rfl, fun e16 H6 n6 k6 r16 => ?_⟩
    refine ⟨_, rfl, ?_⟩
    refine ⟨v, ⟨⟨e16, _, _, rfl, M.ec 16 (by decide), M.m16.no _ (by simp), r16, rfl⟩, True.intro⟩, by show 1 ≤ sizeLine; decide, fun l7 rs7 H7 k7 hl7 n7 ls7 => ?_⟩
    refine ⟨l5, l7, rs2 ++ rs4, rs7, rfl, rfl, k7 _ _ (k6 _ _ upd_same), hl7, by rw [List.length_append, n2, n4, n7]; show 4 + 4 + 1 ≤ sizeLine; decide, fun l hl => ?_⟩
    have z6 : Same H7 (upd H7 l (.lst (rs2 ++ rs4 ++ rs7))) := sm_upd hl
    have z4 : Same H4 (upd H7 l (.lst (rs2 ++ rs4 ++ rs7))) := u5.trans (Same.trans k6 (k7.trans z6))
    have z2 : Same H2 (upd H7 l (.lst (rs2 ++ rs4 ++ rs7))) := k3.trans (k4.trans z4)
    have z0 : Same H H7 := k1.trans (k2.trans (k3.trans (k4.trans (u5.trans (Same.trans k6 k7)))))
    exact k l (rs2 ++ rs4 ++ rs7) _ (z0.free hl) (Same.upd z0 hl) upd_same (((ls2.same z2).append (ls4.same z4)).append (ls7.same z6))

/-- isinstance(e, C) for classes js -/
def bools (i : Nat) (js : List Nat) : List V := js.map fun j => V.bl (decide (i = j))
def spKinds (Cs : Nat → Addr) : Sp := fun vs H Q _ => ∃ (e : Addr) (i : Nat) (fs : List (Str × V)) (ws : List V), vs = [.ref e] ∧ i < 21 ∧ ErrAt H e (Cs i) fs ws ∧ ∀ (l : Addr) (H' : Hp), Same H H' → H' l = some (.lst (bools i (List.range 21))) → Q (.ref l) H'
/-- isinstance(x, C), x in slot 0 -/
def tIs (Cs : Nat → Addr) (j : Nat) : TE := fun σ H Q => ∃ (e : Addr) (i : Nat) (fs : List (Str × V)) (ws : List V), σ[0]? = some (some (.ref e)) ∧ i < 21 ∧ ErrAt H e (Cs i) fs ws ∧ Q (.bl (decide (i = j))) H
theorem pe_is {X : Cx} {Cs : Nat → Addr} {B : Addr} {x y : Expr} {p pos : Pos} (j : Nat) (hj : j < 21) (M : Maks X.prog X.w X.K X.mg X.base Cs B) (hx : PE X x (tVar 0)) (hy : PE X y (tC (.ref (Cs j)))) (hg : Gl X "isinstance")
    (he : starEach [x, y] X.env = (false, eval x X.env) :: starEach [y] X.env := by rfl) (he2 : starEach [y] X.env = (false, eval y X.env) :: starEach [] X.env := by rfl) (hpl : (backTo pos (starEach [y] X.env)).any (·.1) = false := by rfl) : PE X (.Call (.Name "isinstance" p) [x, y] [] pos) (tIs Cs j) :=
  ⟨fun pins s σ H Q I ⟨e, i, fs, ws, h0, hi, er, q⟩ => (pe_callB call_isx hg M.isi (by decide +kernel) (pa_cons hx (pa_cons hy pa_nil (hs := he2)) (hs := he)) (he := he) (hpl := hpl)).run pins s σ H Q I ⟨_, h0, e, Cs i, .ref (Cs j), _, fs, ws, _, rfl, .own _, M.ec i hi, M.gt, er, M.kit i j hi hj, q⟩⟩
/-- three of them in a list; behind another list -/
def tIs3 (Cs : Nat → Addr) (a b c : Nat) : TE := fun σ H Q => ∃ (e : Addr) (i : Nat) (fs : List (Str × V)) (ws : List V), σ[0]? = some (some (.ref e)) ∧ i < 21 ∧ ErrAt H e (Cs i) fs ws ∧ ∀ l, H l = none → Q (.ref l) (upd H l (.lst (bools i [a, b, c])))
theorem pe_is3 {X : Cx} {Cs : Nat → Addr} {a b c : Nat} {es : List Expr} {pos : Pos} (h : PA X es (tCons (tIs Cs a) (tCons (tIs Cs b) (tCons (tIs Cs c) tNil)))) : PE X (.List es pos) (tIs3 Cs a b c) :=
  ⟨fun pins s σ H Q I ⟨e, i, fs, ws, h0, hi, er, q⟩ => (pe_lst h).run pins s σ H Q I ⟨e, i, fs, ws, h0, hi, er, e, i, fs, ws, h0, hi, er, e, i, fs, ws, h0, hi, er, by show 3 ≤ sizeLine; decide, q⟩⟩
def tMore (Cs : Nat → Addr) (a b c : Nat) : TE := fun σ H Q => ∃ (e : Addr) (i : Nat) (fs : List (Str × V)) (ws : List V) (l : Addr) (js : List Nat), σ[0]? = some (some (.ref e)) ∧ i < 21 ∧ ErrAt H e (Cs i) fs ws ∧ σ[1]? = some (some (.ref l)) ∧ H l = some (.lst (bools i js)) ∧ js.length ≤ 100 ∧
  ∀ p H', Same H H' → H' p = some (.lst (bools i (js ++ [a, b, c]))) → Q (.ref p) H'
theorem pe_more {X : Cx} {Cs : Nat → Addr} {a b c : Nat} {x y : Expr} {pos : Pos} (hx : PE X x (tVar 1)) (hy : PE X y (tIs3 Cs a b c)) : PE X (.BinOp x .Add y pos) (tMore Cs a b c) := by
  refine ⟨fun pins s σ H Q I ⟨e, i, fs, ws, l, js, h0, hi, er, h1, hl, hz, q⟩ => (pe_op op_cat hx hy).run pins s σ H Q I ⟨_, h1, e, i, fs, ws, h0, hi, er, fun q0 hq0 => ?_⟩⟩
  have u : Same H (upd H q0 (.lst (bools i [a, b, c]))) := sm_upd hq0
  refine ⟨l, q0, _, _, rfl, rfl, u _ _ hl, upd_same, ?_, fun p hp => ?_⟩
  · have : (bools i js).length = js.length := List.length_map _
    have z : (bools i js).length + 3 ≤ 1000 := by omega
    exact Nat.le_trans z (by decide)
  · have e2 : bools i js ++ bools i [a, b, c] = bools i (js ++ [a, b, c]) := (List.map_append ..).symm
    rw [e2]
    exact q p _ (Same.upd u hp) upd_same
theorem scKinds : FnScope ["_law_error", "_law_found"] ["_law_error"] (defScope sKinds) := ⟨rfl, rfl, rfl, by decide +kernel, rfl, by decide +kernel, by decide +kernel⟩
theorem ok_kinds {f B : Addr} {Cs : Nat → Addr} {fd : FuncData} (F : Fun K "_law_kinds" "_law_kinds" sKinds f fd) (M : Maks P w K mg base Cs B) : FnOk P w K mg base CX0 1 f fd ["_law_error"] (spKinds Cs) := by
  refine F.ok scKinds (fun vs H Q E h => ?_) (fun cdv A outer s H vs Q E hr h => ?_)
  · obtain ⟨e, i, fs, ws, rfl, _⟩ := h
    rfl
  · obtain ⟨e, i, fs, ws, rfl, hi, er, k⟩ := h
    refine ⟨_, (pss_cons (ps_set (i := 1) scKinds.nd rfl (Or.inl rfl) (pe_is3 (pa_cons (pe_is 0 (by decide) M (pv 0) (pe_glob rfl M.m0.gm (rr _)) rfl) (pa_cons (pe_is 1 (by decide) M (pv 0) (pe_glob rfl M.m1.gm (rr _)) rfl) (pa_cons (pe_is 2 (by decide) M (pv 0) (pe_glob rfl M.m2.gm (rr _)) rfl) pa_nil)))))
        (pss_cons (ps_set (i := 1) scKinds.nd rfl (Or.inl rfl) (pe_more (pv 1) (pe_is3 (pa_cons (pe_is 3 (by decide) M (pv 0) (pe_glob rfl M.m3.gm (rr _)) rfl) (pa_cons (pe_is 4 (by decide) M (pv 0) (pe_glob rfl M.m4.gm (rr _)) rfl) (pa_cons (pe_is 5 (by decide) M (pv 0) (pe_glob rfl M.m5.gm (rr _)) rfl) pa_nil))))))
        (pss_cons (ps_set (i := 1) scKinds.nd rfl (Or.inl rfl) (pe_more (pv 1) (pe_is3 (pa_cons (pe_is 6 (by decide) M (pv 0) (pe_glob rfl M.m6.gm (rr _)) rfl) (pa_cons (pe_is 7 (by decide) M (pv 0) (pe_glob rfl M.m7.gm (rr _)) rfl) (pa_cons (pe_is 8 (by decide) M (pv 0) (pe_glob rfl M.m8.gm (rr _)) rfl) pa_nil))))))
        (pss_cons (ps_set (i := 1) scKinds.nd rfl (Or.inl rfl) (pe_more (pv 1) (pe_is3 (pa_cons (pe_is 9 (by decide) M (pv 0) (pe_glob rfl M.m9.gm (rr _)) rfl) (pa_cons (pe_is 10 (by decide) M (pv 0) (pe_glob rfl M.m10.gm (rr _)) rfl) (pa_cons (pe_is 11 (by decide) M (pv 0) (pe_glob rfl M.m11.gm (rr _)) rfl) pa_nil))))))
        (pss_cons (ps_set (i := 1) scKinds.nd rfl (Or.inl rfl) (pe_more (pv 1) (pe_is3 (pa_cons (pe_is 12 (by decide) M (pv 0) (pe_glob rfl M.m12.gm (rr _)) rfl) (pa_cons (pe_is 13 (by decide) M (pv 0) (pe_glob rfl M.m13.gm (rr _)) rfl) (pa_cons (pe_is 14 (by decide) M (pv 0) (pe_glob rfl M.m14.gm (rr _)) rfl) pa_nil))))))
        (pss_cons (ps_set (i := 1) scKinds.nd rfl (Or.inl rfl) (pe_more (pv 1) (pe_is3 (pa_cons (pe_is 15 (by decide) M (pv 0) (pe_glob rfl M.m15.gm (rr _)) rfl) (pa_cons (pe_is 16 (by decide) M (pv 0) (pe_glob rfl M.m16.gm (rr _)) rfl) (pa_cons (pe_is 17 (by decide) M (pv 0) (pe_glob rfl M.m17.gm (rr _)) rfl) pa_nil))))))
        (pss_one (ps_ret (pe_more (pv 1) (pe_is3 (pa_cons (pe_is 18 (by decide) M (pv 0) (pe_glob rfl M.m18.gm (rr _)) rfl) (pa_cons (pe_is 19 (by decide) M (pv 0) (pe_glob rfl M.m19.gm (rr _)) rfl) (pa_cons (pe_is 20 (by decide) M (pv 0) (pe_glob rfl M.m20.gm (rr _)) rfl) pa_nil))))))))))))), ?_⟩
    refine ⟨e, i, fs, ws, rfl, hi, er, fun l0 h0 => ?_⟩
    have k0 : Same H (upd H l0 (.lst (bools i [0, 1, 2]))) := sm_upd h0
    refine ⟨e, i, fs, ws, l0, [0, 1, 2], rfl, hi, er.same k0, rfl, upd_same, by decide, fun l1 H1 k1 g1 => ?_⟩
    refine ⟨e, i, fs, ws, l1, _, rfl, hi, er.same (Same.trans k0 k1), rfl, g1, by decide, fun l2 H2 k2 g2 => ?_⟩
    refine ⟨e, i, fs, ws, l2, _, rfl, hi, er.same (Same.trans (Same.trans k0 k1) k2), rfl, g2, by decide, fun l3 H3 k3 g3 => ?_⟩
    refine ⟨e, i, fs, ws, l3, _, rfl, hi, er.same (Same.trans (Same.trans (Same.trans k0 k1) k2) k3), rfl, g3, by decide, fun l4 H4 k4 g4 => ?_⟩
    refine ⟨e, i, fs, ws, l4, _, rfl, hi, er.same (Same.trans (Same.trans (Same.trans (Same.trans k0 k1) k2) k3) k4), rfl, g4, by decide, fun l5 H5 k5 g5 => ?_⟩
    refine ⟨e, i, fs, ws, l5, _, rfl, hi, er.same (Same.trans (Same.trans (Same.trans (Same.trans (Same.trans k0 k1) k2) k3) k4) k5), rfl, g5, by decide, fun l6 H6 k6 g6 => ?_⟩
    exact k l6 H6 (Same.trans (Same.trans (Same.trans (Same.trans (Same.trans (Same.trans k0 k1) k2) k3) k4) k5) k6) g6
end
end Pf

set_option Elab.async false
set_option linter.all false
set_option maxRecDepth 100000
set_option maxHeartbeats 8000000
namespace Pf
open PySem PySem.Spec PyProof.Rows L2 Sup
abbrev namesL : List Str := ["_law_script", "_law_cell", "_law_well_here", "_law_some", "_law_thing", "_law_other", "_law_text", "_law_lines", "_law_bad", "_law_lacking", "_law_error", "_law_k", "_law_line", "_law_kept", "_law_spot"]
/-- what else the module's names hold -/
structure TxtL (mg : Str → Option Value) (fWell fOne fFirst fOthers fKinds : Addr) : Prop where
  gWell : mg "_law_well" = some (.ref fWell)
  gOne : mg "_law_one" = some (.ref fOne)
  gFirst : mg "_law_first" = some (.ref fFirst)
  gOthers : mg "_law_others" = some (.ref fOthers)
  gKinds : mg "_law_kinds" = some (.ref fKinds)
  repr : mg "repr" = none
  str : mg "str" = none
  enumerate : mg "enumerate" = none
  range : mg "range" = none
  bool : mg "bool" = none
theorem hu2 {k : Nat} {A : Around} (r : Room k A) : A.units + 2 < cLine := by have := r.un; omega
def spLaw (K : PySem.W.Frag) : Sp := fun vs H Q _ => ∃ (a : Addr) (ns : List Int), vs = [.ref a] ∧ SqL K H a (ns.map V.int)
    ∧ ns.length ≤ 63 ∧ ∀ H', Q (.bl true) H'
theorem But.thing {H H' : Hp} {a : Addr} {z : Int} {v : V} (k : But a H H') (h : Thing H v) (hw : WellAt H a z) : Thing H' v := h.same fun b o hb no => k b o hb fun e => by
  obtain ⟨x, y, h1, _⟩ := hw
  rw [e, h1] at hb
  exact no x y z (Option.some.inj hb).symm
theorem Same.but {H H1 H2 : Hp} {a : Addr} (s : Same H H1) (k : But a H1 H2) (ha : H a = none) : Same H H2 := fun b o e => k b o (s b o e) (ne_of_none e ha)
theorem Same.thing {H H' : Hp} {v : V} (k : Same H H') (h : Thing H v) : Thing H' v := h.same fun b o hb _ => k b o hb
theorem WellAt.same {H H' : Hp} {a : Addr} {z : Int} (k : Same H H') (h : WellAt H a z) : WellAt H' a z := by
  obtain ⟨x, y, h1, h2⟩ := h
  exact ⟨x, y, k _ _ h1, h2⟩
theorem cut_mem {xs : List V} {lo hi : Option Int} {v : V} (h : v ∈ cutV xs lo hi) : v ∈ xs := by
  unfold cutV at h
  exact List.mem_of_mem_drop (List.mem_of_mem_take h)
theorem int_of {ns : List Int} {lo hi : Option Int} {i : Nat} {x : V} (h : (cutV (ns.map V.int) lo hi ++ [V.int 0])[i]? = some x) : ∃ c : Int, x = .int c := by
  have m := List.mem_of_getElem? h
  rcases List.mem_append.mp m with m | m
  · obtain ⟨c, _, e⟩ := List.mem_map.mp (cut_mem m)
    exact ⟨c, e.symm⟩
  · exact ⟨0, List.mem_singleton.mp m⟩
abbrev menu (t l d l2 : Addr) : List V := [.non, .int 0, .int (-1), .str "", .str "rows", .ref t, .bl true, .ref l, .ref d, .ref l2, .int (10 ^ 30)]
theorem menu_things {H : Hp} {t t1 l d l2 : Addr} (h1 : H t = some (.tup [.str "make", .ref t1])) (h0 : H t1 = some (.tup [])) (h2 : H l = some (.lst [])) (h3 : H d = some (.dK [])) (h4 : H l2 = some (.lst [.non])) : ∀ v ∈ menu t l d l2, Thing H v := by
  intro v hv
  simp only [List.mem_cons, List.not_mem_nil, or_false] at hv
  rcases hv with rfl | rfl | rfl | rfl | rfl | rfl | rfl | rfl | rfl | rfl | rfl
  · exact .non
  · exact .int _ (by decide)
  · exact .int _ (by decide)
  · exact .str _ (by decide +kernel)
  · exact .str _ (by decide +kernel)
  · exact .tup _ _ h1 h0
  · exact .bl _
  · exact .lst0 _ h2
  · exact .map0 _ h3
  · exact .lst1 _ h4
  · exact .int _ (by decide +kernel)
theorem errBut {H H' : Hp} {l a C : Addr} {xs : List V} {fs : List (Str × V)} {vs : List V} (k : But l H H') (hl : H l = some (.lst xs)) (h : ErrAt H a C fs vs) : ErrAt H' a C fs vs := by
  obtain ⟨d, t, p, h1, h2, h3⟩ := h
  exact ⟨d, t, p, k _ _ h1 (ne_of h1 hl fun z => nomatch (show HO.ext _ = HO.lst xs from z)), k _ _ h2 (ne_of h2 hl fun z => nomatch (show HO.ext _ = HO.lst xs from z)), k _ _ h3 (ne_of h3 hl fun z => nomatch z)⟩
theorem LineAt.but {H H' : Hp} {l C : Addr} {xs : List V} {v r : V} (k : But l H H') (hl : H l = some (.lst xs)) (h : LineAt H C v r) : LineAt H' C v r := by
  obtain ⟨t, e, fs, vs, rfl, h1, h2⟩ := h
  exact ⟨t, e, fs, vs, rfl, k _ _ h1 (ne_of h1 hl fun z => nomatch z), errBut k hl h2⟩
theorem dp_bools {K : PySem.W.Frag} {H : Hp} : ∀ bs : List Bool, DpAll K H (bs.map V.bl) (bs.map PyData.bool)
  | [] => .nil
  | b :: r => .cons (.bl b) (dp_bools r)
abbrev bs21 (i : Nat) : List Bool := (List.range 21).map fun j => decide (i = j)
theorem bools_eq (i : Nat) : bools i (List.range 21) = (bs21 i).map V.bl := by
  unfold bools bs21
  rw [List.map_map]
  rfl
theorem shaped21 : ∀ i, i < 21 → SeqAt.shaped (.list ((bs21 i).map PyData.bool)) = true := by decide +kernel
/-- the i-th line is of the i-th class -/
theorem line_get {H : Hp} {v : V} {Cs : Nat → Addr} {R : List V} {n i : Nat} {r : V} (h : Lines H v ((List.range n).map Cs) R) (hr : R[i]? = some r) : i < n ∧ LineAt H (Cs i) v r := by
  have key : ∀ {as : List Addr} {rs : List V} {i : Nat} {r : V}, Lines H v as rs → rs[i]? = some r → ∃ C, as[i]? = some C ∧ LineAt H C v r := by
    intro as rs i r h
    induction h generalizing i with
    | nil => intro e; simp at e
    | cons a _ ih =>
      intro e
      cases i with
      | zero =>
        simp at e
        subst e
        exact ⟨_, rfl, a⟩
      | succ i =>
        obtain ⟨C, h1, h2⟩ := ih (i := i) (by simpa using e)
        exact ⟨C, by simpa using h1, h2⟩
  obtain ⟨C, h1, h2⟩ := key h hr
  rw [List.getElem?_map] at h1
  by_cases hi : i < n
  · rw [List.getElem?_range hi] at h1
    cases h1
    exact ⟨hi, h2⟩
  · rw [List.getElem?_eq_none (by simpa using hi)] at h1
    cases h1
section
variable {P : Program} {w : World} {K : PySem.W.Frag} {mg : Str → Option Value} {base : Heap}
theorem scLaw : FnScope namesL ["_law_script"] (defScope sLaw) := ⟨rfl, rfl, rfl, by decide +kernel, rfl, by decide +kernel, by decide +kernel⟩
theorem law_body {f B fWell fOne fFirst fOthers fKinds : Addr} {Cs : Nat → Addr} {fdWell fdOne fdFirst fdOthers fdKinds : FuncData} (M : Maks P w K mg base Cs B) (T : TxtL mg fWell fOne fFirst fOthers fKinds)
    (FWell : Fun K "_law_well" "_law_well" sWell fWell fdWell) (bWell : Binds K fdWell ["_law_cell"] []) (GWell : FnOk P w K mg base CX0 1 fWell fdWell ["_law_cell"] spWell)
    (FOne : Fun K "_law_one" "_law_one" sOne fOne fdOne) (bOne : Binds K fdOne ["_law_well_here", "_law_some"] []) (GOne : FnOk P w K mg base CX0 2 fOne fdOne ["_law_well_here", "_law_some"] (spOne K))
    (FFirst : Fun K "_law_first" "_law_first" sFirst fFirst fdFirst) (bFirst : Binds K fdFirst ["_law_thing"] []) (GFirst : FnOk P w K mg base CX0 5 fFirst fdFirst ["_law_thing"] (spLines [Cs 0, Cs 1, Cs 2, Cs 3, Cs 4, Cs 5, Cs 6, Cs 7]))
    (FOthers : Fun K "_law_others" "_law_others" sOthers fOthers fdOthers) (bOthers : Binds K fdOthers ["_law_thing"] []) (GOthers : FnOk P w K mg base CX0 5 fOthers fdOthers ["_law_thing"] (spLines [Cs 8, Cs 9, Cs 10, Cs 11, Cs 12, Cs 13, Cs 14, Cs 15, Cs 16]))
    (FKinds : Fun K "_law_kinds" "_law_kinds" sKinds fKinds fdKinds) (bKinds : Binds K fdKinds ["_law_error"] []) (GKinds : FnOk P w K mg base CX0 1 fKinds fdKinds ["_law_error"] (spKinds Cs))
    (cdv : Value) (A : Around) (outer : List Env) (s : Shared) (H : Hp) (vs : List V) (Q : VK) (E : XK) (hgd : A.guards = some []) (hr : Room 5 (A.deeper (envOfC "law" (defScope sLaw) s.heap.objs.size f cdv))) (h : spLaw K vs H Q E) :
    ∃ t, PSs (cxOf CX0 P w K mg base namesL "law" (defScope sLaw) f cdv A outer s H E).nox (defBody sLaw) t ∧ t { nx := fun _ H' => Q .non H', rt := Q } (start namesL vs) H := by
  obtain ⟨a, ns, rfl, hS, hlen, k⟩ := h
  refine ⟨_, (pss_cons (ps_for PassesOwn.never rfl (pi_list (pe_op op_cat (pe_slice sl_list (pv 0) po_none (po_some pe_int)) (pe_lst (pa_cons pe_int pa_nil)))) (pg_name (i := 1) scLaw.nd rfl (Or.inl rfl)) (pss_cons (ps_set (i := 2) scLaw.nd rfl (Or.inl rfl) (pe_call GWell (hr.mono (by decide)) rfl T.gWell FWell.kp bWell .nil pass0 (pa_cons (pv 1) pa_nil)))
        (pss_cons (ps_set (i := 3) scLaw.nd rfl (Or.inl rfl) (pe_lst (pa_cons pe_non (pa_cons pe_int (pa_cons (pe_un un_neg pe_int) (pa_cons pe_str (pa_cons pe_str (pa_cons (pe_tup (pa_cons pe_str (pa_cons (pe_tup pa_nil) pa_nil))) (pa_cons (pe_cmpR op_eq pe_int pe_int (nomark _)) (pa_cons (pe_lst pa_nil) (pa_cons pe_dnewK (pa_cons (pe_lst (pa_cons pe_non pa_nil)) (pa_cons (pe_op op_pow pe_int pe_int) pa_nil)))))))))))))
        (pss_cons (ps_par (i := 4) (j := 5) (by rfl) scLaw.nd rfl rfl (by decide) rfl rfl (pa_cons (pe_call GOne (hr.mono (by decide)) rfl T.gOne FOne.kp bOne .nil pass0 (pa_cons (pv 2) (pa_cons (pv 3) pa_nil))) (pa_cons (pe_call GOne (hr.mono (by decide)) rfl T.gOne FOne.kp bOne .nil pass0 (pa_cons (pv 2) (pa_cons (pv 3) pa_nil))) pa_nil)) (by rfl))
        (pss_cons (ps_set (i := 6) scLaw.nd rfl (Or.inl rfl) (pe_call GOne (hr.mono (by decide)) rfl T.gOne FOne.kp bOne .nil pass0 (pa_cons (pv 2) (pa_cons (pe_lst (pa_cons pe_str (pa_cons pe_str (pa_cons pe_str pa_nil)))) pa_nil))))
        (pss_cons (ps_set (i := 7) scLaw.nd rfl (Or.inl rfl) (pe_op op_cat (pe_call GFirst (hr.mono (by decide)) rfl T.gFirst FFirst.kp bFirst .nil pass0 (pa_cons (pv 4) pa_nil)) (pe_call GOthers (hr.mono (by decide)) rfl T.gOthers FOthers.kp bOthers .nil pass0 (pa_cons (pv 4) pa_nil))))
        (pss_cons (ps_par (i := 8) (j := 9) (by rfl) scLaw.nd rfl rfl (by decide) rfl rfl (pa_cons (pe_mak M.m17 (by decide) (hr.mono (by decide)) rfl (pa_cons (pv 4) (pa_cons (pv 5) pa_nil))) (pa_cons (pe_mak M.m18 (by decide) (hr.mono (by decide)) rfl (pa_cons (pv 4) (pa_cons (pv 5) pa_nil))) pa_nil)) (by rfl))
        (pss_cons (ps_set (i := 7) scLaw.nd rfl (Or.inl rfl) (pe_op op_cat (pv 7) (pe_lst (pa_cons (pe_tup (pa_cons (pv 8) (pa_cons (pe_xat (pv 8)) pa_nil))) (pa_cons (pe_tup (pa_cons (pv 9) (pa_cons (pe_xat (pv 9)) pa_nil))) pa_nil)))))
        (pss_cons (ps_if (PW.pt (pw_or (pt_cmpR op_ne (pe_callB (call_repT hgd hr.units) (by rfl) T.repr (by decide +kernel) (pa_cons (pe_xat (pv 8)) pa_nil)) (pe_callB (call_repT hgd hr.units) (by rfl) T.repr (by decide +kernel) (pa_cons (pv 5) pa_nil)) (nomark _)) (pw_or1 (pt_cmpR op_ne (pe_callB (call_repT hgd hr.units) (by rfl) T.repr (by decide +kernel) (pa_cons (pe_xat (pv 9)) pa_nil)) (pe_callB (call_repT hgd hr.units) (by rfl) T.repr (by decide +kernel) (pa_cons (pv 5) pa_nil)) (nomark _))))) (pss_one (ps_ret pe_bl)) pss_nil)
        (pss_cons (ps_for PassesOwn.never rfl (pi_list (pe_lst (pa_cons (pe_mak M.m19 (by decide) (hr.mono (by decide)) rfl (pa_cons (pv 6) pa_nil)) (pa_cons (pe_mak M.m20 (by decide) (hr.mono (by decide)) rfl (pa_cons (pv 6) pa_nil)) pa_nil)))) (pg_name (i := 10) scLaw.nd rfl (Or.inl rfl)) (pss_cons (ps_if (pt_cmpR op_ne (pe_callTy (call_strx (hu2 hr)) (by rfl) T.str (by decide +kernel) (pa_cons (pv 10) pa_nil)) (pv 6) (nomark _)) (pss_one (ps_ret pe_bl)) pss_nil)
        (pss_one (ps_expr (pe_bm PySem.F.plainAttrs_list PySem.F.slot_list_append PySem.F.type_list_append mt_append (pv 7) (pa_cons (pe_tup (pa_cons (pv 10) (pa_cons (pv 4) pa_nil))) pa_nil))))))
        (pss_one (ps_for PassesOwn.never rfl (pi_enum rfl T.enumerate (pa_cons (pv 7) pa_nil)) (pg_tup rfl (pgs_cons (pg_name (i := 11) scLaw.nd rfl (Or.inr rfl)) (pgs_cons (pg_name (i := 12) scLaw.nd rfl (Or.inl rfl)) pgs_nil))) (pss_cons (ps_asg (pv 12) (pg_tup rfl (pgs_cons (pg_name (i := 10) scLaw.nd rfl (Or.inl rfl)) (pgs_cons (pg_name (i := 13) scLaw.nd rfl (Or.inl rfl)) pgs_nil))))
        (pss_cons (ps_if (PW.pt (pw_or (pt_not (pt_val (pe_callB call_isx (by rfl) M.isi (by decide +kernel) (pa_cons (pv 10) (pa_cons (pe_glob rfl M.gB (rr _)) pa_nil))))) (pw_or1 (pt_not (pt_val (pe_callB call_isx (by rfl) M.isi (by decide +kernel) (pa_cons (pv 10) (pa_cons (pe_bltn (v := .ty "ValueError") (by rfl) M.ve (by decide +kernel) rfl) pa_nil)))))))) (pss_one (ps_ret pe_bl)) pss_nil)
        (pss_cons (ps_if (pt_cmpR (op_neD hr.units) (pe_call GKinds (hr.mono (by decide)) rfl T.gKinds FKinds.kp bKinds .nil pass0 (pa_cons (pv 10) pa_nil)) (pe_lc (own := [("_law_spot", 14)]) (g := gName 14) (tt := tYes) rfl scLaw.nd (pi_range1 rfl T.range (pa_cons pe_int pa_nil)) (blkOk_by (N := namesL) (sc := defScope sLaw) (by decide +kernel)) (fun _ _ _ _ _ => pg_name (i := 14) scLaw.nd rfl (Or.inl rfl)) (fun _ _ _ _ _ => pts_nil) (fun _ _ _ _ _ => (pe_cmpR op_eq (pv 11) (pv 14) (nomark _)))) (nomark _)) (pss_one (ps_ret pe_bl)) pss_nil)
        (pss_one (ps_if (PW.pt (pw_or (pt_cmpR (op_neT hr.units) (pv 13) (pv 4) (nomark _)) (pw_or1 (pt_cmpR op_ne (pe_callB call_isi (by rfl) M.isi (by decide +kernel) (pa_cons (pv 13) (pa_cons (pe_bltn (v := .ty "bool") (by rfl) T.bool (by decide +kernel) rfl) pa_nil))) (pe_callB call_isi (by rfl) M.isi (by decide +kernel) (pa_cons (pv 4) (pa_cons (pe_bltn (v := .ty "bool") (by rfl) T.bool (by decide +kernel) rfl) pa_nil))) (nomark _))))) (pss_one (ps_ret pe_bl)) pss_nil)))))))))))))))))
        (pss_one (ps_ret pe_bl))), ?_⟩
  refine ⟨_, rfl, _, rfl, a, _, rfl, hS, fun p1 hp1 => ?_⟩
  have k1 : Same H (upd H p1 (.lst (cutV (ns.map V.int) none (some 6)))) := sm_upd hp1
  refine ⟨by show 1 ≤ sizeLine; decide, fun p2 hp2 => ?_⟩
  have k2 : Same H (upd (upd H p1 (.lst (cutV (ns.map V.int) none (some 6)))) p2 (.lst [V.int 0])) := Same.upd k1 hp2
  refine ⟨p1, p2, _, _, rfl, rfl, (upd_ne (ne_of_none upd_same hp2)).trans upd_same, upd_same, ?_, fun p3 hp3 => ?_⟩
  · have z := cutV_length (ns.map V.int) none (some 6)
    rw [List.length_map] at z
    have z2 : (cutV (ns.map V.int) none (some 6)).length + 1 ≤ 64 := by omega
    exact Nat.le_trans z2 (by decide)
  have k3 : Same H (upd (upd (upd H p1 (.lst (cutV (ns.map V.int) none (some 6)))) p2 (.lst [V.int 0])) p3 (.lst (cutV (ns.map V.int) none (some 6) ++ [V.int 0]))) := Same.upd k2 hp3
  have g3 : (upd (upd (upd H p1 (.lst (cutV (ns.map V.int) none (some 6)))) p2 (.lst [V.int 0])) p3 (.lst (cutV (ns.map V.int) none (some 6) ++ [V.int 0]))) p3 = some (.lst (cutV (ns.map V.int) none (some 6) ++ [V.int 0])) := upd_same
  generalize (upd (upd (upd H p1 (.lst (cutV (ns.map V.int) none (some 6)))) p2 (.lst [V.int 0])) p3 (.lst (cutV (ns.map V.int) none (some 6) ++ [V.int 0]))) = H1 at k3 g3 ⊢
  refine ⟨p3, rfl, ⟨_, SqL.of g3⟩, for_list (K := K) (a := p3) (xs := cutV (ns.map V.int) none (some 6) ++ [V.int 0]) (fun i σ H' => (∃ v1 v2 v3 v4 v5 v6 v7 v8 v9 v10 v11 v12 v13 v14 : Option V, σ = [some (.ref a), v1, v2, v3, v4, v5, v6, v7, v8, v9, v10, v11, v12, v13, v14]) ∧ Same H1 H')
    ⟨⟨_, _, _, _, _, _, _, _, _, _, _, _, _, _, rfl⟩, Same.refl _⟩ (fun i σ H' _ hv => SqL.of (hv.2 _ _ g3)) ?_ ?_⟩
  rotate_left
  · rintro σ H' ⟨⟨v1, v2, v3, v4, v5, v6, v7, v8, v9, v10, v11, v12, v13, v14, rfl⟩, _⟩
    exact k _
  rintro i x σ H2 hx ⟨⟨v1, v2, v3, v4, v5, v6, v7, v8, v9, v10, v11, v12, v13, v14, rfl⟩, kT⟩
  obtain ⟨c, rfl⟩ := int_of hx
  -- the well, the menu
  refine ⟨_, rfl, c, rfl, fun pw o hpw w0 => ?_⟩
  have s3 : Same H2 (upd H2 pw o) := sm_upd hpw
  generalize upd H2 pw o = H3 at w0 s3 ⊢
  refine ⟨_, rfl, (by show 0 ≤ sizeLine; decide), fun t1 ht1 => ⟨(by show 2 ≤ sizeLine; decide), fun t2 ht2 => ?_⟩⟩
  refine ⟨rfl, (by show 0 ≤ sizeLine; decide), fun l1 hl1 d1 hd1 => ⟨(by show 1 ≤ sizeLine; decide), fun l2 hl2 => ⟨_, _, rfl, rfl, ⟨by decide, by decide, by decide⟩, (by show 11 ≤ sizeLine; decide), fun ls hls => ?_⟩⟩⟩
  have a4 : Same H3 (upd H3 t1 (.tup [])) := sm_upd ht1
  have g1 : upd H3 t1 (.tup []) t1 = some (.tup []) := upd_same
  generalize upd H3 t1 (.tup []) = H4 at a4 g1 ht2 hl1 hd1 hl2 hls ⊢
  have a5 : Same H4 (upd H4 t2 (.tup [.str "make", .ref t1])) := sm_upd ht2
  have g2 : upd H4 t2 (.tup [.str "make", .ref t1]) t2 = some (.tup [.str "make", .ref t1]) := upd_same
  generalize upd H4 t2 (.tup [.str "make", .ref t1]) = H5 at a5 g2 hl1 hd1 hl2 hls ⊢
  have a6 : Same H5 (upd H5 l1 (.lst [])) := sm_upd hl1
  have gl1 : upd H5 l1 (.lst []) l1 = some (.lst []) := upd_same
  generalize upd H5 l1 (.lst []) = H6 at a6 gl1 hd1 hl2 hls ⊢
  have a7 : Same H6 (upd H6 d1 (.dK [])) := sm_upd hd1
  have gd1 : upd H6 d1 (.dK []) d1 = some (.dK []) := upd_same
  generalize upd H6 d1 (.dK []) = H7 at a7 gd1 hl2 hls ⊢
  have a8 : Same H7 (upd H7 l2 (.lst [V.non])) := sm_upd hl2
  have gl2 : upd H7 l2 (.lst [V.non]) l2 = some (.lst [V.non]) := upd_same
  generalize upd H7 l2 (.lst [V.non]) = H8 at a8 gl2 hls ⊢
  have a9 : Same H8 (upd H8 ls (.lst (menu t2 l1 d1 l2))) := sm_upd hls
  have gls : upd H8 ls (.lst (menu t2 l1 d1 l2)) ls = some (.lst (menu t2 l1 d1 l2)) := upd_same
  show gName 3 (.ref ls) _ (upd H8 ls (.lst (menu t2 l1 d1 l2))) _
  generalize upd H8 ls (.lst (menu t2 l1 d1 l2)) = H9 at a9 gls ⊢
  have th : ∀ v ∈ menu t2 l1 d1 l2, Thing H9 v := menu_things (a9 _ _ (a8 _ _ (a7 _ _ (a6 _ _ g2)))) (a9 _ _ (a8 _ _ (a7 _ _ (a6 _ _ (a5 _ _ g1))))) (a9 _ _ (a8 _ _ (a7 _ _ gl1))) (a9 _ _ (a8 _ _ gd1)) (a9 _ _ gl2)
  have k39 : Same H3 H9 := a4.trans (a5.trans (a6.trans (a7.trans (a8.trans a9))))
  have k29 : Same H2 H9 := s3.trans k39
  have w9 : WellAt H9 pw 0 := w0.same k39
  have hne : ls ≠ pw := by
    obtain ⟨x, y, hw, _⟩ := w0
    exact Ne.symm (ne_of_none ((a4.trans (a5.trans (a6.trans (a7.trans a8)))) _ _ hw) hls)
  -- what is drawn
  refine ⟨_, rfl, _, rfl, pw, ls, 0, menu t2 l1 d1 l2, rfl, w9, gls, hne, (by show 0 < 11; decide), (by show 11 < 1000000; decide), by decide, by decide, fun u1 z1 H10 hu1 hz1 hz1' w10 b10 => ?_⟩
  have th1 : Thing H10 u1 := b10.thing (th _ hu1) w9
  have th9 : ∀ v ∈ menu t2 l1 d1 l2, Thing H10 v := fun v hv => b10.thing (th _ hv) w9
  refine ⟨_, rfl, _, rfl, pw, ls, z1, menu t2 l1 d1 l2, rfl, w10, b10 _ _ gls hne, hne, (by show 0 < 11; decide), (by show 11 < 1000000; decide), hz1, by omega, fun u2 z2 H11 hu2 hz2 hz2' w11 b11 => ?_⟩
  have th1' : Thing H11 u1 := b11.thing th1 w10
  have th2 : Thing H11 u2 := b11.thing (th9 _ hu2) w10
  refine ⟨_, _, rfl, _, rfl, (by show 3 ≤ sizeLine; decide), fun lt hlt => ?_⟩
  have a12 : Same H11 (upd H11 lt (.lst [V.str "", V.str "no order", V.str "a b"])) := sm_upd hlt
  have glt : upd H11 lt (.lst [V.str "", V.str "no order", V.str "a b"]) lt = some (.lst [V.str "", V.str "no order", V.str "a b"]) := upd_same
  have hne2 : lt ≠ pw := by
    obtain ⟨x, y, hw, _⟩ := w11
    exact Ne.symm (ne_of_none hw hlt)
  generalize upd H11 lt (.lst [V.str "", V.str "no order", V.str "a b"]) = H12 at a12 glt ⊢
  have w12 := w11.same a12
  refine ⟨pw, lt, z2, _, rfl, w12, glt, hne2, (by show 0 < 3; decide), (by show 3 < 1000000; decide), by omega, by omega, fun u3 z3 H13 hu3 _ _ _ b13 => ?_⟩
  obtain ⟨y3, rfl⟩ : ∃ y : Str, u3 = .str y := by
    simp only [List.mem_cons, List.not_mem_nil, or_false] at hu3
    rcases hu3 with rfl | rfl | rfl <;> exact ⟨_, rfl⟩
  have t1 : Thing H13 u1 := b13.thing (Same.thing a12 th1') w12
  have t2' : Thing H13 u2 := b13.thing (Same.thing a12 th2) w12
  have kk : Same H2 H13 := Same.but (Same.trans (Same.but (Same.but k29 b10 hpw) b11 hpw) a12) b13 hpw
  clear th th9 th1 th1' th2 w9 w10 w11 w12 b10 b11 b13 a12 glt hne hne2 k29 k39 a4 a5 a6 a7 a8 a9 g1 g2 gl1 gd1 gl2 gls w0 s3
  -- the lines
  refine ⟨_, rfl, u1, rfl, fun lf rs1 H14 _ k14 g14 ls1 => ⟨_, rfl, u1, rfl, fun lo rs2 H15 _ k15 g15 ls2 => ?_⟩⟩
  have n1 : rs1.length = 8 := (Paired.length ls1).symm
  have n2 : rs2.length = 9 := (Paired.length ls2).symm
  refine ⟨lf, lo, rs1, rs2, rfl, rfl, k15 _ _ g14, g15, (by rw [n1, n2]; show 8 + 9 ≤ sizeLine; decide), fun ll hll => ?_⟩
  have a16 : Same H15 (upd H15 ll (.lst (rs1 ++ rs2))) := sm_upd hll
  have gll : upd H15 ll (.lst (rs1 ++ rs2)) ll = some (.lst (rs1 ++ rs2)) := upd_same
  generalize upd H15 ll (.lst (rs1 ++ rs2)) = H16 at a16 gll ⊢
  have lsA : Lines H16 u1 ([Cs 0, Cs 1, Cs 2, Cs 3, Cs 4, Cs 5, Cs 6, Cs 7] ++ [Cs 8, Cs 9, Cs 10, Cs 11, Cs 12, Cs 13, Cs 14, Cs 15, Cs 16]) (rs1 ++ rs2) := (ls1.same (Same.trans k15 a16)).append (ls2.same a16)
  have k16 : Same H13 H16 := Same.trans k14 (Same.trans k15 a16)
  refine ⟨_, rfl, _, rfl, rfl, fun eb H17 nb k17 rb => ⟨_, rfl, _, rfl, rfl, fun el H18 nl k18 rl => ⟨_, _, rfl, ?_⟩⟩⟩
  have rb' : ErrAt H18 eb (Cs 17) [("why", u2), ("at", u1)] [u1, u2] := rb.same k18
  have rl' : ErrAt H18 el (Cs 18) [("attribute", u2), ("address", u1)] [u1, u2] := rl
  have k18' : Same H13 H18 := Same.trans k16 (Same.trans k17 k18)
  have gll18 : H18 ll = some (.lst (rs1 ++ rs2)) := k18 _ _ (k17 _ _ gll)
  have lsB : Lines H18 u1 ([Cs 0, Cs 1, Cs 2, Cs 3, Cs 4, Cs 5, Cs 6, Cs 7] ++ [Cs 8, Cs 9, Cs 10, Cs 11, Cs 12, Cs 13, Cs 14, Cs 15, Cs 16]) (rs1 ++ rs2) := lsA.same (Same.trans k17 k18)
  clear rb rl gll lsA
  refine ⟨_, rfl, _, rfl, _, rfl, eb, Cs 17, _, _, u1, rfl, M.ec 17 (by decide), M.m17.no _ (by simp), rb', rfl, (by show 2 ≤ sizeLine; decide), fun t17 ht17 => ?_⟩
  have a19 : Same H18 (upd H18 t17 (.tup [.ref eb, u1])) := sm_upd ht17
  have gt17 : upd H18 t17 (.tup [.ref eb, u1]) t17 = some (.tup [.ref eb, u1]) := upd_same
  generalize upd H18 t17 (.tup [.ref eb, u1]) = H19 at a19 gt17 ⊢
  refine ⟨_, rfl, _, rfl, el, Cs 18, _, _, u1, rfl, M.ec 18 (by decide), M.m18.no _ (by simp), rl'.same a19, rfl, (by show 2 ≤ sizeLine; decide), fun t18 ht18 => ?_⟩
  have a20 : Same H19 (upd H19 t18 (.tup [.ref el, u1])) := sm_upd ht18
  have gt18 : upd H19 t18 (.tup [.ref el, u1]) t18 = some (.tup [.ref el, u1]) := upd_same
  generalize upd H19 t18 (.tup [.ref el, u1]) = H20 at a20 gt18 ⊢
  refine ⟨(by show 2 ≤ sizeLine; decide), fun lm hlm => ?_⟩
  have a21 : Same H20 (upd H20 lm (.lst [.ref t17, .ref t18])) := sm_upd hlm
  have glm : upd H20 lm (.lst [.ref t17, .ref t18]) lm = some (.lst [.ref t17, .ref t18]) := upd_same
  generalize upd H20 lm (.lst [.ref t17, .ref t18]) = H21 at a21 glm ⊢
  have k1821 : Same H18 H21 := a19.trans (a20.trans a21)
  refine ⟨ll, lm, _, _, rfl, rfl, k1821 _ _ gll18, glm, (by rw [List.length_append, n1, n2]; show 8 + 9 + 2 ≤ sizeLine; decide), fun lL hlL => ?_⟩
  have a22 : Same H21 (upd H21 lL (.lst (rs1 ++ rs2 ++ [.ref t17, .ref t18]))) := sm_upd hlL
  have gL : upd H21 lL (.lst (rs1 ++ rs2 ++ [.ref t17, .ref t18])) lL = some (.lst (rs1 ++ rs2 ++ [.ref t17, .ref t18])) := upd_same
  have nL : H13 lL = none := Same.free (Same.trans k18' k1821) hlL
  generalize upd H21 lL (.lst (rs1 ++ rs2 ++ [.ref t17, .ref t18])) = H22 at a22 gL ⊢
  have k1822 : Same H18 H22 := k1821.trans a22
  have lsC : Lines H22 u1 ([Cs 0, Cs 1, Cs 2, Cs 3, Cs 4, Cs 5, Cs 6, Cs 7] ++ [Cs 8, Cs 9, Cs 10, Cs 11, Cs 12, Cs 13, Cs 14, Cs 15, Cs 16] ++ [Cs 17, Cs 18]) (rs1 ++ rs2 ++ [.ref t17, .ref t18]) :=
    (lsB.same k1822).append (.cons ⟨t17, eb, _, _, rfl, (a20.trans (a21.trans a22)) _ _ gt17, rb'.same k1822⟩ (.cons ⟨t18, el, _, _, rfl, (a21.trans a22) _ _ gt18, rl'.same k1822⟩ .nil))
  have k22 : Same H13 H22 := k18'.trans k1822
  have rb2 := rb'.same k1822
  have rl2 := rl'.same k1822
  have th1 : Thing H22 u1 := Same.thing k22 t1
  have th2 : Thing H22 u2 := Same.thing k22 t2'
  generalize hR : rs1 ++ rs2 ++ [V.ref t17, V.ref t18] = R at gL lsC ⊢
  clear lsB a19 a20 a21 a22 gt17 gt18 glm k1821 k1822 rb' rl' k18' gll18 ls1 ls2 g14 g15 k14 k15 a16 k16 k17 k18
  -- repr
  refine ⟨_, rfl, eb, Cs 17, _, _, u2, rfl, M.ec 17 (by decide), M.m17.no _ (by simp), rb2, rfl, u2, rfl, th2, fun y1 sy1 => ?_⟩
  refine ⟨_, rfl, u2, rfl, th2, fun y2 sy2 => ⟨rfl, _, rfl, ?_⟩⟩
  obtain rfl := sy1.one sy2
  refine iteNS rfl ⟨_, rfl, el, Cs 18, _, _, u2, rfl, M.ec 18 (by decide), M.m18.no _ (by simp), rl2, rfl, u2, rfl, th2, fun y4 sy4 => ?_⟩
  refine ⟨_, rfl, u2, rfl, th2, fun y5 sy5 => ⟨rfl, _, rfl, ?_⟩⟩
  obtain rfl := sy4.one sy5
  refine iteNS rfl ?_
  -- the last two
  refine ⟨_, rfl, rfl, fun e19 H23 _ k23 r19 => ⟨_, rfl, rfl, fun e20 H24 _ k24 r20 => ⟨(by show 2 ≤ sizeLine; decide), fun l3 hl3 => ?_⟩⟩⟩
  have r19' : ErrAt H24 e19 (Cs 19) [] [.str y3] := r19.same k24
  have r20' : ErrAt H24 e20 (Cs 20) [] [.str y3] := r20
  have a25 : Same H24 (upd H24 l3 (.lst [.ref e19, .ref e20])) := sm_upd hl3
  have gl3 : upd H24 l3 (.lst [.ref e19, .ref e20]) l3 = some (.lst [.ref e19, .ref e20]) := upd_same
  have n3L : l3 ≠ lL := Ne.symm (ne_of_none (k24 _ _ (k23 _ _ gL)) hl3)
  generalize upd H24 l3 (.lst [.ref e19, .ref e20]) = H25 at a25 gl3 ⊢
  have k25 : Same H22 H25 := Same.trans k23 (Same.trans k24 a25)
  have r19 := r19'.same a25
  have r20 := r20'.same a25
  have gL25 := k25 _ _ gL
  have lsD : Lines H25 u1 ((List.range 19).map Cs) R := lsC.same k25
  have nR : R.length = 19 := (Paired.length lsD).symm
  refine ⟨l3, rfl, ⟨_, SqL.of gl3⟩, for_list (K := K) (a := l3) (xs := [.ref e19, .ref e20])
    (fun j σ H' => (∃ w10 : Option V, σ = [some (.ref a), some (.int c), some (.ref pw), some (.ref ls), some u1, some u2, some (.str y3), some (.ref lL), some (.ref eb), some (.ref el), w10, v11, v12, v13, v14]) ∧ But lL H25 H' ∧
      ∃ R', H' lL = some (.lst R') ∧ R'.length = 19 + j ∧ Lines H' u1 ((List.range (19 + j)).map Cs) R')
    ⟨⟨_, rfl⟩, fun _ _ e _ => e, R, gL25, nR, lsD⟩ (fun j σ H' _ hv => SqL.of (hv.2.1 _ _ gl3 n3L)) ?_ ?_⟩
  · rintro j x σ H' hj ⟨⟨w10, rfl⟩, bL, R', gR, nR', lsR⟩
    have hx : ∃ e i, x = V.ref e ∧ i < 21 ∧ i = 19 + j ∧ ErrAt H25 e (Cs i) [] [.str y3] := by
      match j, hj with
      | 0, hj => exact ⟨e19, 19, (Option.some.inj hj).symm, by decide, rfl, r19⟩
      | 1, hj => exact ⟨e20, 20, (Option.some.inj hj).symm, by decide, rfl, r20⟩
      | j + 2, hj => simp at hj
    obtain ⟨e, i, rfl, hi, rfl, er⟩ := hx
    have er' := errBut bL gL25 er
    refine ⟨_, rfl, e, Cs (19 + j), _, y3, rfl, M.ec _ hi, er', _, rfl, rfl, _, rfl, ?_⟩
    refine iteNS rfl ?_
    refine ⟨_, rfl, .inl ⟨rfl, _, SqL.of gR⟩, _, rfl, _, rfl, (by show 2 ≤ sizeLine; decide), fun t ht => ?_⟩
    have at_ : Same H' (upd H' t (.tup [.ref e, u1])) := sm_upd ht
    have gt : upd H' t (.tup [.ref e, u1]) t = some (.tup [.ref e, u1]) := upd_same
    generalize upd H' t (.tup [.ref e, u1]) = H'' at at_ gt ⊢
    refine ⟨lL, R', .ref t, rfl, rfl, at_ _ _ gR, (by rw [nR']; exact Nat.lt_of_lt_of_le (Nat.lt_of_lt_of_le (show 19 + j < 21 from hi) (by decide : 21 ≤ 1000)) (by decide)), ?_⟩
    have bN : But lL H'' (upd H'' lL (.lst (R' ++ [.ref t]))) := But.upd
    refine ⟨⟨_, rfl⟩, fun b o e nb => bN _ _ (at_ _ _ (bL _ _ e nb)) nb, R' ++ [.ref t], upd_same, (by rw [List.length_append, nR']; rfl), ?_⟩
    have e1 : (List.range (19 + (j + 1))).map Cs = (List.range (19 + j)).map Cs ++ [Cs (19 + j)] := by
      rw [show 19 + (j + 1) = (19 + j) + 1 from rfl, List.range_succ, List.map_append]
      rfl
    rw [e1]
    have q1 : Lines H'' u1 ((List.range (19 + j)).map Cs) R' := lsR.same at_
    exact Lines.append (Paired.mapP q1 fun _ _ z => z.but bN (at_ _ _ gR)) (.cons (LineAt.but bN (at_ _ _ gR) ⟨t, e, _, _, rfl, gt, er'.same at_⟩) .nil)
  rintro σ H26 ⟨⟨w10, rfl⟩, bL, R', gR, nR', lsR⟩
  have lsR : Lines H26 u1 ((List.range 21).map Cs) R' := lsR
  have nR' : R'.length = 21 := nR'
  have k26 : Same H13 H26 := Same.but (Same.trans k22 k25) bL nL
  have th26 : Thing H26 u1 := Same.thing k26 t1
  -- each line
  refine ⟨_, rfl, lL, R', rfl, SqL.of gR, for_it (walk_enum (K := K) (a := lL) (xs := R'))
    (fun i σ H' => (∃ w10 w11 w12 w13 w14 : Option V, σ = [some (.ref a), some (.int c), some (.ref pw), some (.ref ls), some u1, some u2, some (.str y3), some (.ref lL), some (.ref eb), some (.ref el), w10, w11, w12, w13, w14]) ∧ Same H26 H')
    ⟨⟨_, _, _, _, _, rfl⟩, Same.refl _⟩ (fun i σ H' _ hv => SqL.of (hv.2 _ _ gR)) ?_ ?_⟩
  rotate_left
  · rintro σ H' ⟨⟨w10, w11, w12, w13, w14, rfl⟩, kz⟩
    exact ⟨⟨_, _, _, _, _, _, _, _, _, _, _, _, _, _, rfl⟩, kT.trans (kk.trans (k26.trans kz))⟩
  rintro i x σ H27 H28 hi ⟨⟨w10, w11, w12, w13, w14, rfl⟩, k27⟩ ⟨tp, x1, x2, rfl, htp, rfl, h1, h2⟩
  obtain rfl := Option.some.inj h1
  have hi21 : i < 21 := by rw [← nR']; exact hi
  obtain ⟨t, e, fs, ws, rfl, gt, er⟩ := (line_get lsR h2).2
  have a28 : Same H27 (upd H27 tp (.tup [.int (i : Nat), .ref t])) := sm_upd htp
  have gtp : upd H27 tp (.tup [.int (i : Nat), .ref t]) tp = some (.tup [.int (i : Nat), .ref t]) := upd_same
  generalize upd H27 tp (.tup [.int (i : Nat), .ref t]) = H28 at a28 gtp ⊢
  have k28 : Same H26 H28 := Same.trans k27 a28
  have er28 := er.same k28
  refine ⟨tp, _, rfl, SqT.of gtp, rfl, _, _, rfl, _, _, rfl, rfl, ?_⟩
  refine ⟨_, rfl, t, _, rfl, SqT.of (k28 _ _ gt), rfl, _, _, rfl, _, _, rfl, rfl, ?_⟩
  refine ⟨_, rfl, e, Cs i, .ref B, _, fs, ws, true, rfl, .own _, M.ec i hi21, M.gt, er28, M.kitB i hi21, true, rfl, iteF ?_⟩
  refine ⟨_, rfl, e, Cs i, .ty "ValueError", _, fs, ws, true, rfl, .ty _, M.ec i hi21, M.gt, er28, M.kitV i hi21, true, rfl, iteF ?_⟩
  refine ⟨_, rfl, e, i, fs, ws, rfl, hi21, er28, fun lk H29 k29 g29 => ?_⟩
  refine ⟨21, rfl, by decide, by decide, fun D hD => lc_range (lo := 0) (n := 21) (fun j H' => Same H29 H' ∧ H' D = some (.lst ((List.range j).map fun q => V.bl (decide (i = q)))))
    ⟨sm_upd hD, upd_same⟩ ?_ ?_⟩
  · rintro j H' hj ⟨ks, gD⟩
    refine ⟨rfl, _, rfl, _, rfl, rfl, _, gD, ?_, ?_⟩
    · rw [List.length_map, List.length_range]
      exact Nat.lt_of_lt_of_le hj (by decide)
    · have e1 : decide (V.int (i : Nat) = V.int (0 + (j : Nat))) = decide (i = j) := by
        by_cases z : i = j
        · subst z
          rw [decide_eq_true rfl]
          exact decide_eq_true (by rw [Int.zero_add])
        · rw [decide_eq_false z]
          exact decide_eq_false fun q => by
            have q2 := V.int.inj q
            omega
      have e2 : ((List.range j).map fun q => V.bl (decide (i = q))) ++ [V.bl (decide (i = j))] = (List.range (j + 1)).map fun q => V.bl (decide (i = q)) := by
        rw [List.range_succ, List.map_append]
        rfl
      show Same H29 (upd H' D (.lst (((List.range j).map fun q => V.bl (decide (i = q))) ++ [V.bl (decide (V.int (i : Nat) = V.int (0 + (j : Nat))))]))) ∧ _
      rw [e1, e2]
      refine ⟨fun b o e => ?_, upd_same⟩
      rw [upd_ne (fun z => by rw [z, hD] at e; cases e)]
      exact ks b o e
  rintro H30 ⟨k30, gD⟩
  have gD : H30 D = some (.lst ((bs21 i).map V.bl)) := by
    rw [gD, ← bools_eq]
    rfl
  have gk : H30 lk = some (.lst ((bs21 i).map V.bl)) := by
    rw [k30 _ _ g29, bools_eq]
  have sh := shaped21 i hi21
  refine ⟨.list ((bs21 i).map PyData.bool), .list ((bs21 i).map PyData.bool), .lst (SqL.of gk) (dp_bools _), .lst (SqL.of gD) (dp_bools _), sh, sh, _, rfl, ?_⟩
  rw [SeqAt.eqv_refl _ (SeqAt.canLay_of_shaped sh)]
  refine iteF ?_
  have k30' : Same H26 H30 := Same.trans k28 (Same.trans k29 k30)
  have th30 : Thing H30 u1 := Same.thing k30' th26
  obtain ⟨ty, bo, htx, hkit⟩ := th30.bool (K := K)
  refine ⟨_, rfl, _, rfl, rfl, th30, false, rfl, iteF ?_⟩
  refine ⟨_, rfl, u1, .ty "bool", ty, _, bo, rfl, .ty _, htx, hkit, _, rfl, u1, .ty "bool", ty, _, bo, rfl, .ty _, htx, hkit, rfl, _, rfl, ?_⟩
  refine iteNS rfl ?_
  exact ⟨⟨_, _, _, _, _, rfl⟩, k30'⟩
end
end Pf

set_option Elab.async false
set_option linter.all false
set_option maxRecDepth 100000
set_option maxHeartbeats 4000000
/-! The end of a law whose walk asks what reprs are under way: the def is run at the caller's own surroundings, where none is. -/
namespace Ends
open PySem PySem.Spec PyProof.Rows L2
section
variable {P : Program} {w : World} {K : PySem.W.Frag} {mg : Str → Option Value} {base : Heap}
/-- a def run at given surroundings, by its body -/
theorem runAt {x qual : Str} {st : Stmt} {f : Addr} {fd : FuncData} {N ps : List Str} {k : Nat} {A : Around} {outer : List Env} {s : Shared} {H : Hp} {args : Args} {us : List Value} {vs : List V} {Q : VK} {E : XK}
    (F : Fun K x qual st f fd) (S : FnScope N ps (defScope st)) (hl : vs.length = ps.length) (hr : Room (k + 1) A) (e0 : Env0 P w K mg base A outer s H) (hb : BindsTo s fd args (ps.zip us)) (r : Vals vs us)
    (body : ∀ cdv, Room k (A.deeper (envOfC qual (defScope st) s.heap.objs.size f cdv)) → ∃ t, PSs (cxOf CX0 P w K mg base N qual (defScope st) f cdv A outer s H E).nox (defBody st) t ∧ t { nx := fun _ H' => Q .non H', rt := Q } (start N vs) H) :
    codeAny (model P w) A (.call (.ref f) args) (CR CX0 outer P w H s Q E) s := by
  obtain ⟨oc, od, kV, doc, pm, an, cdv, ct, osl, rfl, lk, hcd⟩ := F.ex
  have KX : K.In s.heap := e0.mod.kin.keeps fun b o z => (e0.bs b o z).1
  have par : ∀ y ∈ ps.zip us, (defScope st).names.lookup y.1 = some .local ∨ ((defScope st).names.lookup y.1 = some .cell ∧ ((cellsFrom (s.heap.objs.size + 1) (defScope st).names []).lookup y.1).isSome = true) := by
    intro y hy
    have hy1 : y.1 ∈ ps := (List.of_mem_zip (a := y.1) (b := y.2) hy).1
    exact (S.par y.1 hy1).imp id fun q => ⟨q, PySem.W.cellsFrom_some _ _ _ (.inl q)⟩
  obtain ⟨t, ht, hq⟩ := body cdv (hr.deeper _)
  refine codeAny_call_function hr.depth (KX _ _ lk) rfl S.co S.gen rfl (PySem.W.codeRec_of KX hcd) (hb _ _ _ _ (wpAny_newFunctionEnv_cells S.kind par fun env he s1 z => ?_))
  subst he
  refine ⟨(e0.mod.nolimit.keeps fun b o z => (e0.bs b o z).1).keeps z.toInCall.keep, codeAny_func ?_⟩
  refine wpAny_mono (ht.nox.run [] s1 _ H _ (inv_start S hr.hd e0 hl r z) hq) (fun fl s' hs => ?_) fun _ _ z => z
  match fl, hs with
  | .ret u, ⟨v, _, H', J, rv, q⟩ => exact ⟨v, H', J.os, J.bare, J.base, J.hok, rv, q⟩
  | .next, ⟨_, H', J, q⟩ => exact ⟨.non, H', J.os, J.bare, J.base, J.hok, rfl, q⟩
  | .brk, ⟨_, _, _, q⟩ => exact False.elim q
  | .cont, ⟨_, _, _, q⟩ => exact False.elim q
/-- THE END: what is left to show of the law's call, from a run of its def at the caller's surroundings -/
theorem callG {mb : Str → Option Value} {fa a : Addr} {s₁ : Shared} {us : List Value} {ns : List Int} (KX : K.In s₁.heap) (hns : s₁.heap.Ns mainGlobals mg) (hb : s₁.heap.Ns builtinsNs mb) (hbb : ∀ x : Str, x ≠ "__name__" → mb x = bootBuiltins x)
    (lim : s₁.heap.NoLimit) (hg : s₁.gens = #[]) (ha : s₁.heap.get? a = some { cls := .type "list", data := .seq us.toArray }) (hi : IntsAre us ns) (hl : ns.length ≤ sizeLine)
    (run : ∀ (base : Heap) (H : Hp), K.In base → base.Ns mainGlobals mg → Env0 P w K mg base callerA [] s₁ H → SqL K H a (ns.map V.int) →
      codeAny (model P w) callerA (.call (.ref fa) ⟨[.ref a], []⟩) (CR CX0 [] P w H s₁ (fun v _ => v = .bl true) E0) s₁) :
    codeAny (model P w) callerA (.call (.ref fa) ⟨[.ref a], []⟩) (fun r s' => r = .ok (.ret (.bool true)) ∧ OldK s₁.heap s'.heap
        ∧ s'.os = s₁.os ∧ AllBare s'.gens) s₁ := by
  have rv := vals_ints hi
  -- H tracks at most the script, frozen, and then the written part does not have it
  have from_ : ∀ H : Hp, SqL K H a (ns.map V.int) → HOk P w H s₁.heap → (∀ b u, H b = some u → b = a ∧ K.lookup a = none ∧ ∃ o xs, u = .frz o (.lst xs)) →
      codeAny (model P w) callerA (.call (.ref fa) ⟨[.ref a], []⟩) (fun r s' => r = .ok (.ret (.bool true)) ∧ OldK s₁.heap s'.heap ∧ s'.os = s₁.os ∧ AllBare s'.gens) s₁ := fun H hS ok only => by
    have free : ∀ b o, s₁.heap.get? b = some o → (b = a → False) → H b = none := fun b o _ nb => by
      cases q : H b with
      | none => rfl
      | some u => exact (nb (only b u q).1).elim
    have keepNs : ∀ {b : Addr} {m : Str → Option Value}, s₁.heap.Ns b m → (hidT s₁.heap H).Ns b m := fun {b m} hn => by
      obtain ⟨o, es, ep, h1, h2, h3⟩ := hn
      refine ⟨o, es, ep, hidT_get h1 (free b o h1 fun e => ?_), h2, h3⟩
      rw [e, ha] at h1
      have h4 := Option.some.inj h1
      subst h4
      cases h2
    have kin : K.In (hidT s₁.heap H) := fun b o e => hidT_get (KX b o e) (by
      cases q : H b with
      | none => rfl
      | some u =>
        obtain ⟨rfl, hk, _⟩ := only b u q
        rw [hk] at e
        cases e)
    obtain ⟨mc, c1, c2⟩ := lim
    have e0 : Env0 P w K mg (hidT s₁.heap H) callerA [] s₁ H :=
      ⟨rfl, ⟨kin, keepNs hns, ⟨mb, keepNs hb, hbb⟩, ⟨mc, keepNs c1, c2⟩⟩, fun b o e => of_hidT e, Nat.le_of_eq (hidT_size _ _), trivial, fun b hb => (by cases hb), ok, .of_eq hg⟩
    refine codeAny_mono (run _ H kin (keepNs hns) e0 hS) fun r s' h => ?_
    match r, h with
    | .error e, h => exact False.elim h
    | .ok .next, h => exact False.elim h
    | .ok .brk, h => exact False.elim h
    | .ok .cont, h => exact False.elim h
    | .ok (.ret u), ⟨v, H', os, bare, un, ok', ru, q⟩ =>
      obtain rfl : v = .bl true := q
      obtain rfl : u = Value.bool true := ru
      refine ⟨rfl, OldK.of_keep fun b o e => ?_, os, bare⟩
      cases q : H b with
      | none => exact un.keep b o e q (fun z => by cases z) (fun z => by cases z)
      | some u =>
        obtain ⟨_, _, ob, xs, rfl⟩ := only b u q
        obtain ⟨e1, _⟩ := ok b _ q
        obtain ⟨e2, _⟩ := ok' b _ (un.frzs b ob _ q)
        exact e2.trans (e1.symm.trans e)
  cases hk : K.lookup a with
  | some o =>
    have ho := KX a o hk
    rw [ha] at ho
    obtain rfl := Option.some.inj ho
    refine from_ (fun _ => none) (.inr ⟨_, us.toArray, _, hk, rfl, rfl, rfl, ?_, by simpa using rv⟩) (fun b u z => nomatch z) (fun b u z => nomatch z)
    rw [List.size_toArray, ← Paired.length rv, List.length_map]
    exact hl
  | none =>
    let o : Obj := { cls := .type "list", data := .seq us.toArray }
    have at_a : (fun b => if b = a then some (HO.frz o (.lst (ns.map V.int))) else none : Hp) a = some (HO.frz o (.lst (ns.map V.int))) := if_pos rfl
    have only : ∀ b u, (fun b => if b = a then some (HO.frz o (.lst (ns.map V.int))) else none : Hp) b = some u → b = a ∧ u = .frz o (.lst (ns.map V.int)) := fun b u z => by
      by_cases e : b = a
      · have z2 := (if_pos e).symm.trans z
        exact ⟨e, (Option.some.inj z2).symm⟩
      · have z2 := (if_neg e).symm.trans z
        cases z2
    refine from_ _ (.inl (.inr ⟨o, at_a⟩)) (fun b u z => ?_) fun b u z => ⟨(only b u z).1, hk, o, _, (only b u z).2⟩
    obtain ⟨rfl, rfl⟩ := only b u z
    exact ⟨ha, by rw [List.length_map]; exact hl, us, 0, rv, ha⟩
end
end Ends

set_option Elab.async false
set_option linter.all false
set_option maxRecDepth 100000
set_option maxHeartbeats 4000000
namespace Pf
open PySem PySem.Spec PyProof.Rows L2 Sup NdefX
abbrev P0 : Program := PySem.Challenge.rw_planfirst_k06_errors_by_hand.prog
/-- the facts of one class, as the head finds them -/
structure ClsF (K : PySem.W.Frag) (x qual : Str) (B f0 C fI cc cda : Addr) (fs : List (Str × Pos)) (p1 : Pos) (body : List Stmt) : Prop where
  aC : PySem.W.nsIn K mainGlobals x = some (some (.ref C))
  xC : ∃ nm q N bs sn sub ab col dd k0 k1 k2 k3 k5, K.lookup C = some (excClassObj nm q C N bs [.ref B, .type "ValueError", .type "Exception", .type "BaseException", .type "object"] true sn sub ab col dd k0 k1 k2 k3 k5 "ValueError.__new__")
  sa : PySem.W.findIn K (.ref C) "__setattr__" = some (some (.builtin "object.__setattr__"))
  ga : PySem.W.findIn K (.ref C) "__getattribute__" = some (some (.builtin "BaseException.__getattribute__"))
  gg : PySem.W.findIn K (.ref C) "__getattr__" = some none
  exC : PySem.W.subIn K (.ref C) (.type "BaseException") = some true
  tyC : PySem.W.typeIn K (.ref C) = some (.type "type")
  kC : PySem.W.keepIn K (.ref C) = true
  hdC : PySem.W.hasDictIn K C = true
  cl : PySem.W.findIn K (.ref C) "__class__" = some (some (.builtin "object.__class__"))
  st : PySem.W.findIn K (.ref C) "__str__" = some (some (.builtin "BaseException.__str__"))
  iC : PySem.W.findIn K (.ref C) "__init__" = some (some (.ref fI))
  tI : PySem.W.typeIn K (.ref fI) = some (.type "function")
  lk : ∃ oc od doc pm ctv osl, K.lookup fI = some ⟨oc, od, .func ((nfI qual fs p1 body cc cda).fd doc pm ctv), osl⟩
  cd : PySem.W.codeIn K (.ref cda) qual = true
  cell : ∃ a b c, K.lookup cc = some ⟨a, b, .cell (some (.ref C)), c⟩
  code : ∃ a b vs sl file tf, K.lookup cda = some ⟨a, b, .fields vs, sl⟩ ∧ vs[2]? = some (.str file tf) ∧ ((P0.main.file : Str) == file) = true
  no : ∀ f ∈ ("told" : Str) :: fs.map (·.1), PySem.W.findIn K (.ref C) f = some none
  sup : PySem.W.ks_superIn K C C "__init__" = some (some (.ref f0))
section
variable {K : PySem.W.Frag} {x qual : Str} {B f0 C fI cc cda : Addr} {fs : List (Str × Pos)} {p1 : Pos} {body : List Stmt}
theorem ClsF.cdOf (F : ClsF K x qual B f0 C fI cc cda fs p1 body) : ∃ cd : ClassData, PySem.W.clsIn K C = some cd ∧ cd.mro = [.ref C, .ref B, .type "ValueError", .type "Exception", .type "BaseException", .type "object"] := by
  obtain ⟨nm, q, N, bs, sn, sub, ab, col, dd, k0, k1, k2, k3, k5, h⟩ := F.xC
  exact ⟨{ name := nm, bases := bs, mro := [.ref C, .ref B, .type "ValueError", .type "Exception", .type "BaseException", .type "object"], ns := N, qualname := q, hasDict := true, slotNames := sn, subclasses := sub, abstract := ab, collection := col, hasDel := false }, by unfold PySem.W.clsIn; rw [h], rfl⟩
theorem ClsF.oex (F : ClsF K x qual B f0 C fI cc cda fs p1 body) : OexC K C := by
  obtain ⟨nm, q, N, bs, sn, sub, ab, col, dd, k0, k1, k2, k3, k5, h⟩ := F.xC
  exact ⟨⟨nm, q, N, bs, _, sn, sub, ab, col, dd, k0, k1, k2, k3, k5, h, rfl⟩, F.sa, F.exC, F.tyC, F.kC⟩
theorem ClsF.mro (F : ClsF K x qual B f0 C fI cc cda fs p1 body) (b : Value) (r : Bool) (h : ([.ref C, .ref B, .type "ValueError", .type "Exception", .type "BaseException", .type "object"] : List Value).contains b = r) : PySem.W.mroIn K C b = some r := by
  obtain ⟨cd, h1, h2⟩ := F.cdOf
  unfold PySem.W.mroIn
  rw [h1, Option.bind_some, h2, h]
  rfl
theorem ClsF.ec (F : ClsF K x qual B f0 C fI cc cda fs p1 body) : ErrC K C := ⟨F.ga, F.gg, F.exC, F.hdC, F.cl, F.mro _ _ (by simp), F.st⟩
theorem ClsF.supT (F : ClsF K x qual B f0 C fI cc cda fs p1 body) (t0 : PySem.W.typeIn K (.ref f0) = some (.type "function")) (n0 : PySem.W.fnIn K f0 = true) (tp : PySem.W.nsIn K cStatics "thirdparty.any" = some none) : SupT P0 K C fI f0 cc cda :=
  ⟨F.oex, F.cell, F.code, F.sup, t0, n0, tp, by decide +kernel⟩
theorem ClsF.iniT (F : ClsF K x qual B f0 C fI cc cda fs p1 body) (t0 : PySem.W.typeIn K (.ref f0) = some (.type "function")) (n0 : PySem.W.fnIn K f0 = true) (tp : PySem.W.nsIn K cStatics "thirdparty.any" = some none) : InitT P0 K C fI f0 cc cda qual fs p1 body :=
  ⟨F.supT t0 n0 tp, F.no, F.lk, F.cd⟩
/-- isinstance of an instance of C against another such class, its base, ValueError -/
theorem ClsF.kitC (F : ClsF K x qual B f0 C fI cc cda fs p1 body) {y qual' : Str} {D fI' cc' cda' : Addr} {fs' : List (Str × Pos)} {p1' : Pos} {body' : List Stmt} (G : ClsF K y qual' B f0 D fI' cc' cda' fs' p1' body') (ne : C ≠ D) (nb : B ≠ D) : PySem.W.kitOne K (.ref C) (.ref D) = some false := by
  obtain ⟨cd, h1, h2⟩ := G.cdOf
  have e1 : ((PySem.W.clsIn K D).isSome && PySem.W.typeIn K (.ref D) == some (.type "type")) = true := by rw [h1, G.tyC]; rfl
  have e2 : PySem.W.subIn K (.ref C) (.ref D) = some false := F.mro _ _ (by simp [Ne.symm ne, Ne.symm nb])
  have e3 : ((Value.ref C) == Value.ref D) = false := by simp [ne]
  unfold PySem.W.kitOne PySem.W.kitCls
  rw [e3]
  simp only [Bool.false_eq_true, if_false]
  rw [if_pos e1]
  exact e2
theorem ClsF.kitB (F : ClsF K x qual B f0 C fI cc cda fs p1 body) (cb : (PySem.W.clsIn K B).isSome = true) (tb : PySem.W.typeIn K (.ref B) = some (.type "type")) : PySem.W.kitOne K (.ref C) (.ref B) = some true := by
  have e1 : ((PySem.W.clsIn K B).isSome && PySem.W.typeIn K (.ref B) == some (.type "type")) = true := by rw [cb, tb]; rfl
  have e2 : PySem.W.subIn K (.ref C) (.ref B) = some true := F.mro _ _ (by simp)
  unfold PySem.W.kitOne PySem.W.kitCls
  by_cases h : ((Value.ref C) == Value.ref B) = true
  · rw [if_pos h]
  · rw [if_neg h]
    simp only
    rw [if_pos e1]
    exact e2
theorem ClsF.kitV (F : ClsF K x qual B f0 C fI cc cda fs p1 body) : PySem.W.kitOne K (.ref C) (.type "ValueError") = some true := by
  have e2 : PySem.W.subIn K (.ref C) (.type "ValueError") = some true := F.mro _ _ (by simp)
  have e1 : PySem.W.kitMeta "ValueError" = true := by decide +kernel
  show (if ((Value.ref C) == Value.type "ValueError") = true then some true else if PySem.W.kitMeta "ValueError" = true then PySem.W.subIn K (.ref C) (.type "ValueError") else none) = some true
  rw [if_neg (by intro z; cases z), if_pos e1]
  exact e2
end
end Pf

set_option Elab.async false
set_option linter.all false
set_option maxRecDepth 100000
set_option maxHeartbeats 4000000
namespace Pf
open PySem PySem.Spec PyProof.Rows L2 Sup NdefX
section
variable {w : World} {K : PySem.W.Frag} {mg : Str → Option Value} {base h : Heap} {B f0 C fI cc cda : Addr}
theorem mak0 (F : ClsF K "Misfit" "Misfit.__init__" B f0 C fI cc cda [("expression", ⟨41, 23, 41, 33⟩)] ⟨41, 17, 41, 21⟩ [supCall [.Name "expression" ⟨42, 25, 42, 35⟩] ⟨42, 8, 42, 13⟩ ⟨42, 8, 42, 15⟩ ⟨42, 8, 42, 24⟩ ⟨42, 8, 42, 36⟩ ⟨42, 8, 42, 36⟩, setF "expression" ⟨43, 8, 43, 12⟩ ⟨43, 8, 43, 23⟩ ⟨43, 26, 43, 36⟩ ⟨43, 8, 43, 36⟩]) (t0 : PySem.W.typeIn K (.ref f0) = some (.type "function")) (n0 : PySem.W.fnIn K f0 = true) (tp : PySem.W.nsIn K cStatics "thirdparty.any" = some none) (hms : mg "super" = none)
    (F0 : FnR P0 w K mg base CX0 2 f0 (spBase K)) (X : K.In h) (G : h.Ns mainGlobals mg) : Mak P0 w K mg base "Misfit" C 1 ["expression"] :=
  ⟨F.oex, ⟨fI, F.iC, F.tI, init_one (by decide +kernel) (by decide +kernel) (by decide +kernel) (by decide +kernel) (by decide +kernel) (by decide +kernel) (F.iniT t0 n0 tp) hms F0 (fun _ _ _ _ _ => rfl) (fun _ => rfl)⟩, PySem.W.mg_of X G F.aC, F.ec, fun f hf => F.no f (List.mem_cons_of_mem _ hf)⟩
theorem mak1 (F : ClsF K "NoKind" "NoKind.__init__" B f0 C fI cc cda [("part", ⟨46, 23, 46, 27⟩)] ⟨46, 17, 46, 21⟩ [supCall [.Name "part" ⟨47, 25, 47, 29⟩] ⟨47, 8, 47, 13⟩ ⟨47, 8, 47, 15⟩ ⟨47, 8, 47, 24⟩ ⟨47, 8, 47, 30⟩ ⟨47, 8, 47, 30⟩, setF "part" ⟨48, 8, 48, 12⟩ ⟨48, 8, 48, 17⟩ ⟨48, 20, 48, 24⟩ ⟨48, 8, 48, 24⟩]) (t0 : PySem.W.typeIn K (.ref f0) = some (.type "function")) (n0 : PySem.W.fnIn K f0 = true) (tp : PySem.W.nsIn K cStatics "thirdparty.any" = some none) (hms : mg "super" = none)
    (F0 : FnR P0 w K mg base CX0 2 f0 (spBase K)) (X : K.In h) (G : h.Ns mainGlobals mg) : Mak P0 w K mg base "NoKind" C 1 ["part"] :=
  ⟨F.oex, ⟨fI, F.iC, F.tI, init_one (by decide +kernel) (by decide +kernel) (by decide +kernel) (by decide +kernel) (by decide +kernel) (by decide +kernel) (F.iniT t0 n0 tp) hms F0 (fun _ _ _ _ _ => rfl) (fun _ => rfl)⟩, PySem.W.mg_of X G F.aC, F.ec, fun f hf => F.no f (List.mem_cons_of_mem _ hf)⟩
theorem mak2 (F : ClsF K "NoConfig" "NoConfig.__init__" B f0 C fI cc cda [("at", ⟨51, 23, 51, 25⟩)] ⟨51, 17, 51, 21⟩ [supCall [.Name "at" ⟨52, 25, 52, 27⟩] ⟨52, 8, 52, 13⟩ ⟨52, 8, 52, 15⟩ ⟨52, 8, 52, 24⟩ ⟨52, 8, 52, 28⟩ ⟨52, 8, 52, 28⟩, setF "at" ⟨53, 8, 53, 12⟩ ⟨53, 8, 53, 15⟩ ⟨53, 18, 53, 20⟩ ⟨53, 8, 53, 20⟩]) (t0 : PySem.W.typeIn K (.ref f0) = some (.type "function")) (n0 : PySem.W.fnIn K f0 = true) (tp : PySem.W.nsIn K cStatics "thirdparty.any" = some none) (hms : mg "super" = none)
    (F0 : FnR P0 w K mg base CX0 2 f0 (spBase K)) (X : K.In h) (G : h.Ns mainGlobals mg) : Mak P0 w K mg base "NoConfig" C 1 ["at"] :=
  ⟨F.oex, ⟨fI, F.iC, F.tI, init_one (by decide +kernel) (by decide +kernel) (by decide +kernel) (by decide +kernel) (by decide +kernel) (by decide +kernel) (F.iniT t0 n0 tp) hms F0 (fun _ _ _ _ _ => rfl) (fun _ => rfl)⟩, PySem.W.mg_of X G F.aC, F.ec, fun f hf => F.no f (List.mem_cons_of_mem _ hf)⟩
theorem mak3 (F : ClsF K "NoValue" "NoValue.__init__" B f0 C fI cc cda [("param", ⟨62, 23, 62, 28⟩)] ⟨62, 17, 62, 21⟩ [supCall [.Name "param" ⟨63, 25, 63, 30⟩] ⟨63, 8, 63, 13⟩ ⟨63, 8, 63, 15⟩ ⟨63, 8, 63, 24⟩ ⟨63, 8, 63, 31⟩ ⟨63, 8, 63, 31⟩, setF "param" ⟨64, 8, 64, 12⟩ ⟨64, 8, 64, 18⟩ ⟨64, 21, 64, 26⟩ ⟨64, 8, 64, 26⟩]) (t0 : PySem.W.typeIn K (.ref f0) = some (.type "function")) (n0 : PySem.W.fnIn K f0 = true) (tp : PySem.W.nsIn K cStatics "thirdparty.any" = some none) (hms : mg "super" = none)
    (F0 : FnR P0 w K mg base CX0 2 f0 (spBase K)) (X : K.In h) (G : h.Ns mainGlobals mg) : Mak P0 w K mg base "NoValue" C 1 ["param"] :=
  ⟨F.oex, ⟨fI, F.iC, F.tI, init_one (by decide +kernel) (by decide +kernel) (by decide +kernel) (by decide +kernel) (by decide +kernel) (by decide +kernel) (F.iniT t0 n0 tp) hms F0 (fun _ _ _ _ _ => rfl) (fun _ => rfl)⟩, PySem.W.mg_of X G F.aC, F.ec, fun f hf => F.no f (List.mem_cons_of_mem _ hf)⟩
theorem mak4 (F : ClsF K "Unsure" "Unsure.__init__" B f0 C fI cc cda [("address", ⟨67, 23, 67, 30⟩)] ⟨67, 17, 67, 21⟩ [supCall [.Name "address" ⟨68, 25, 68, 32⟩] ⟨68, 8, 68, 13⟩ ⟨68, 8, 68, 15⟩ ⟨68, 8, 68, 24⟩ ⟨68, 8, 68, 33⟩ ⟨68, 8, 68, 33⟩, setF "address" ⟨69, 8, 69, 12⟩ ⟨69, 8, 69, 20⟩ ⟨69, 23, 69, 30⟩ ⟨69, 8, 69, 30⟩]) (t0 : PySem.W.typeIn K (.ref f0) = some (.type "function")) (n0 : PySem.W.fnIn K f0 = true) (tp : PySem.W.nsIn K cStatics "thirdparty.any" = some none) (hms : mg "super" = none)
    (F0 : FnR P0 w K mg base CX0 2 f0 (spBase K)) (X : K.In h) (G : h.Ns mainGlobals mg) : Mak P0 w K mg base "Unsure" C 1 ["address"] :=
  ⟨F.oex, ⟨fI, F.iC, F.tI, init_one (by decide +kernel) (by decide +kernel) (by decide +kernel) (by decide +kernel) (by decide +kernel) (by decide +kernel) (F.iniT t0 n0 tp) hms F0 (fun _ _ _ _ _ => rfl) (fun _ => rfl)⟩, PySem.W.mg_of X G F.aC, F.ec, fun f hf => F.no f (List.mem_cons_of_mem _ hf)⟩
theorem mak5 (F : ClsF K "BadMany" "BadMany.__init__" B f0 C fI cc cda [("address", ⟨72, 23, 72, 30⟩)] ⟨72, 17, 72, 21⟩ [supCall [.Name "address" ⟨73, 25, 73, 32⟩] ⟨73, 8, 73, 13⟩ ⟨73, 8, 73, 15⟩ ⟨73, 8, 73, 24⟩ ⟨73, 8, 73, 33⟩ ⟨73, 8, 73, 33⟩, setF "address" ⟨74, 8, 74, 12⟩ ⟨74, 8, 74, 20⟩ ⟨74, 23, 74, 30⟩ ⟨74, 8, 74, 30⟩]) (t0 : PySem.W.typeIn K (.ref f0) = some (.type "function")) (n0 : PySem.W.fnIn K f0 = true) (tp : PySem.W.nsIn K cStatics "thirdparty.any" = some none) (hms : mg "super" = none)
    (F0 : FnR P0 w K mg base CX0 2 f0 (spBase K)) (X : K.In h) (G : h.Ns mainGlobals mg) : Mak P0 w K mg base "BadMany" C 1 ["address"] :=
  ⟨F.oex, ⟨fI, F.iC, F.tI, init_one (by decide +kernel) (by decide +kernel) (by decide +kernel) (by decide +kernel) (by decide +kernel) (by decide +kernel) (F.iniT t0 n0 tp) hms F0 (fun _ _ _ _ _ => rfl) (fun _ => rfl)⟩, PySem.W.mg_of X G F.aC, F.ec, fun f hf => F.no f (List.mem_cons_of_mem _ hf)⟩
theorem mak6 (F : ClsF K "Refused" "Refused.__init__" B f0 C fI cc cda [("addresses", ⟨83, 23, 83, 32⟩)] ⟨83, 17, 83, 21⟩ [supCall [.Name "addresses" ⟨84, 25, 84, 34⟩] ⟨84, 8, 84, 13⟩ ⟨84, 8, 84, 15⟩ ⟨84, 8, 84, 24⟩ ⟨84, 8, 84, 35⟩ ⟨84, 8, 84, 35⟩, setF "addresses" ⟨85, 8, 85, 12⟩ ⟨85, 8, 85, 22⟩ ⟨85, 25, 85, 34⟩ ⟨85, 8, 85, 34⟩]) (t0 : PySem.W.typeIn K (.ref f0) = some (.type "function")) (n0 : PySem.W.fnIn K f0 = true) (tp : PySem.W.nsIn K cStatics "thirdparty.any" = some none) (hms : mg "super" = none)
    (F0 : FnR P0 w K mg base CX0 2 f0 (spBase K)) (X : K.In h) (G : h.Ns mainGlobals mg) : Mak P0 w K mg base "Refused" C 1 ["addresses"] :=
  ⟨F.oex, ⟨fI, F.iC, F.tI, init_one (by decide +kernel) (by decide +kernel) (by decide +kernel) (by decide +kernel) (by decide +kernel) (by decide +kernel) (F.iniT t0 n0 tp) hms F0 (fun _ _ _ _ _ => rfl) (fun _ => rfl)⟩, PySem.W.mg_of X G F.aC, F.ec, fun f hf => F.no f (List.mem_cons_of_mem _ hf)⟩
theorem mak7 (F : ClsF K "Ring" "Ring.__init__" B f0 C fI cc cda [("steps", ⟨88, 23, 88, 28⟩)] ⟨88, 17, 88, 21⟩ [supCall [.Name "steps" ⟨89, 25, 89, 30⟩] ⟨89, 8, 89, 13⟩ ⟨89, 8, 89, 15⟩ ⟨89, 8, 89, 24⟩ ⟨89, 8, 89, 31⟩ ⟨89, 8, 89, 31⟩, setF "steps" ⟨90, 8, 90, 12⟩ ⟨90, 8, 90, 18⟩ ⟨90, 21, 90, 26⟩ ⟨90, 8, 90, 26⟩]) (t0 : PySem.W.typeIn K (.ref f0) = some (.type "function")) (n0 : PySem.W.fnIn K f0 = true) (tp : PySem.W.nsIn K cStatics "thirdparty.any" = some none) (hms : mg "super" = none)
    (F0 : FnR P0 w K mg base CX0 2 f0 (spBase K)) (X : K.In h) (G : h.Ns mainGlobals mg) : Mak P0 w K mg base "Ring" C 1 ["steps"] :=
  ⟨F.oex, ⟨fI, F.iC, F.tI, init_one (by decide +kernel) (by decide +kernel) (by decide +kernel) (by decide +kernel) (by decide +kernel) (by decide +kernel) (F.iniT t0 n0 tp) hms F0 (fun _ _ _ _ _ => rfl) (fun _ => rfl)⟩, PySem.W.mg_of X G F.aC, F.ec, fun f hf => F.no f (List.mem_cons_of_mem _ hf)⟩
theorem mak8 (F : ClsF K "Taken" "Taken.__init__" B f0 C fI cc cda [("tag", ⟨93, 23, 93, 26⟩)] ⟨93, 17, 93, 21⟩ [supCall [.Name "tag" ⟨94, 25, 94, 28⟩] ⟨94, 8, 94, 13⟩ ⟨94, 8, 94, 15⟩ ⟨94, 8, 94, 24⟩ ⟨94, 8, 94, 29⟩ ⟨94, 8, 94, 29⟩, setF "tag" ⟨95, 8, 95, 12⟩ ⟨95, 8, 95, 16⟩ ⟨95, 19, 95, 22⟩ ⟨95, 8, 95, 22⟩]) (t0 : PySem.W.typeIn K (.ref f0) = some (.type "function")) (n0 : PySem.W.fnIn K f0 = true) (tp : PySem.W.nsIn K cStatics "thirdparty.any" = some none) (hms : mg "super" = none)
    (F0 : FnR P0 w K mg base CX0 2 f0 (spBase K)) (X : K.In h) (G : h.Ns mainGlobals mg) : Mak P0 w K mg base "Taken" C 1 ["tag"] :=
  ⟨F.oex, ⟨fI, F.iC, F.tI, init_one (by decide +kernel) (by decide +kernel) (by decide +kernel) (by decide +kernel) (by decide +kernel) (by decide +kernel) (F.iniT t0 n0 tp) hms F0 (fun _ _ _ _ _ => rfl) (fun _ => rfl)⟩, PySem.W.mg_of X G F.aC, F.ec, fun f hf => F.no f (List.mem_cons_of_mem _ hf)⟩
theorem mak9 (F : ClsF K "Gone" "Gone.__init__" B f0 C fI cc cda [("tag", ⟨98, 23, 98, 26⟩)] ⟨98, 17, 98, 21⟩ [supCall [.Name "tag" ⟨99, 25, 99, 28⟩] ⟨99, 8, 99, 13⟩ ⟨99, 8, 99, 15⟩ ⟨99, 8, 99, 24⟩ ⟨99, 8, 99, 29⟩ ⟨99, 8, 99, 29⟩, setF "tag" ⟨100, 8, 100, 12⟩ ⟨100, 8, 100, 16⟩ ⟨100, 19, 100, 22⟩ ⟨100, 8, 100, 22⟩]) (t0 : PySem.W.typeIn K (.ref f0) = some (.type "function")) (n0 : PySem.W.fnIn K f0 = true) (tp : PySem.W.nsIn K cStatics "thirdparty.any" = some none) (hms : mg "super" = none)
    (F0 : FnR P0 w K mg base CX0 2 f0 (spBase K)) (X : K.In h) (G : h.Ns mainGlobals mg) : Mak P0 w K mg base "Gone" C 1 ["tag"] :=
  ⟨F.oex, ⟨fI, F.iC, F.tI, init_one (by decide +kernel) (by decide +kernel) (by decide +kernel) (by decide +kernel) (by decide +kernel) (by decide +kernel) (F.iniT t0 n0 tp) hms F0 (fun _ _ _ _ _ => rfl) (fun _ => rfl)⟩, PySem.W.mg_of X G F.aC, F.ec, fun f hf => F.no f (List.mem_cons_of_mem _ hf)⟩
theorem mak10 (F : ClsF K "InUse" "InUse.__init__" B f0 C fI cc cda [("tag", ⟨103, 23, 103, 26⟩)] ⟨103, 17, 103, 21⟩ [supCall [.Name "tag" ⟨104, 25, 104, 28⟩] ⟨104, 8, 104, 13⟩ ⟨104, 8, 104, 15⟩ ⟨104, 8, 104, 24⟩ ⟨104, 8, 104, 29⟩ ⟨104, 8, 104, 29⟩, setF "tag" ⟨105, 8, 105, 12⟩ ⟨105, 8, 105, 16⟩ ⟨105, 19, 105, 22⟩ ⟨105, 8, 105, 22⟩]) (t0 : PySem.W.typeIn K (.ref f0) = some (.type "function")) (n0 : PySem.W.fnIn K f0 = true) (tp : PySem.W.nsIn K cStatics "thirdparty.any" = some none) (hms : mg "super" = none)
    (F0 : FnR P0 w K mg base CX0 2 f0 (spBase K)) (X : K.In h) (G : h.Ns mainGlobals mg) : Mak P0 w K mg base "InUse" C 1 ["tag"] :=
  ⟨F.oex, ⟨fI, F.iC, F.tI, init_one (by decide +kernel) (by decide +kernel) (by decide +kernel) (by decide +kernel) (by decide +kernel) (by decide +kernel) (F.iniT t0 n0 tp) hms F0 (fun _ _ _ _ _ => rfl) (fun _ => rfl)⟩, PySem.W.mg_of X G F.aC, F.ec, fun f hf => F.no f (List.mem_cons_of_mem _ hf)⟩
theorem mak11 (F : ClsF K "Occupied" "Occupied.__init__" B f0 C fI cc cda [("address", ⟨108, 23, 108, 30⟩)] ⟨108, 17, 108, 21⟩ [supCall [.Name "address" ⟨109, 25, 109, 32⟩] ⟨109, 8, 109, 13⟩ ⟨109, 8, 109, 15⟩ ⟨109, 8, 109, 24⟩ ⟨109, 8, 109, 33⟩ ⟨109, 8, 109, 33⟩, setF "address" ⟨110, 8, 110, 12⟩ ⟨110, 8, 110, 20⟩ ⟨110, 23, 110, 30⟩ ⟨110, 8, 110, 30⟩]) (t0 : PySem.W.typeIn K (.ref f0) = some (.type "function")) (n0 : PySem.W.fnIn K f0 = true) (tp : PySem.W.nsIn K cStatics "thirdparty.any" = some none) (hms : mg "super" = none)
    (F0 : FnR P0 w K mg base CX0 2 f0 (spBase K)) (X : K.In h) (G : h.Ns mainGlobals mg) : Mak P0 w K mg base "Occupied" C 1 ["address"] :=
  ⟨F.oex, ⟨fI, F.iC, F.tI, init_one (by decide +kernel) (by decide +kernel) (by decide +kernel) (by decide +kernel) (by decide +kernel) (by decide +kernel) (F.iniT t0 n0 tp) hms F0 (fun _ _ _ _ _ => rfl) (fun _ => rfl)⟩, PySem.W.mg_of X G F.aC, F.ec, fun f hf => F.no f (List.mem_cons_of_mem _ hf)⟩
theorem mak12 (F : ClsF K "Owned" "Owned.__init__" B f0 C fI cc cda [("address", ⟨113, 23, 113, 30⟩)] ⟨113, 17, 113, 21⟩ [supCall [.Name "address" ⟨114, 25, 114, 32⟩] ⟨114, 8, 114, 13⟩ ⟨114, 8, 114, 15⟩ ⟨114, 8, 114, 24⟩ ⟨114, 8, 114, 33⟩ ⟨114, 8, 114, 33⟩, setF "address" ⟨115, 8, 115, 12⟩ ⟨115, 8, 115, 20⟩ ⟨115, 23, 115, 30⟩ ⟨115, 8, 115, 30⟩]) (t0 : PySem.W.typeIn K (.ref f0) = some (.type "function")) (n0 : PySem.W.fnIn K f0 = true) (tp : PySem.W.nsIn K cStatics "thirdparty.any" = some none) (hms : mg "super" = none)
    (F0 : FnR P0 w K mg base CX0 2 f0 (spBase K)) (X : K.In h) (G : h.Ns mainGlobals mg) : Mak P0 w K mg base "Owned" C 1 ["address"] :=
  ⟨F.oex, ⟨fI, F.iC, F.tI, init_one (by decide +kernel) (by decide +kernel) (by decide +kernel) (by decide +kernel) (by decide +kernel) (by decide +kernel) (F.iniT t0 n0 tp) hms F0 (fun _ _ _ _ _ => rfl) (fun _ => rfl)⟩, PySem.W.mg_of X G F.aC, F.ec, fun f hf => F.no f (List.mem_cons_of_mem _ hf)⟩
theorem mak13 (F : ClsF K "NotThere" "NotThere.__init__" B f0 C fI cc cda [("address", ⟨118, 23, 118, 30⟩)] ⟨118, 17, 118, 21⟩ [supCall [.Name "address" ⟨119, 25, 119, 32⟩] ⟨119, 8, 119, 13⟩ ⟨119, 8, 119, 15⟩ ⟨119, 8, 119, 24⟩ ⟨119, 8, 119, 33⟩ ⟨119, 8, 119, 33⟩, setF "address" ⟨120, 8, 120, 12⟩ ⟨120, 8, 120, 20⟩ ⟨120, 23, 120, 30⟩ ⟨120, 8, 120, 30⟩]) (t0 : PySem.W.typeIn K (.ref f0) = some (.type "function")) (n0 : PySem.W.fnIn K f0 = true) (tp : PySem.W.nsIn K cStatics "thirdparty.any" = some none) (hms : mg "super" = none)
    (F0 : FnR P0 w K mg base CX0 2 f0 (spBase K)) (X : K.In h) (G : h.Ns mainGlobals mg) : Mak P0 w K mg base "NotThere" C 1 ["address"] :=
  ⟨F.oex, ⟨fI, F.iC, F.tI, init_one (by decide +kernel) (by decide +kernel) (by decide +kernel) (by decide +kernel) (by decide +kernel) (by decide +kernel) (F.iniT t0 n0 tp) hms F0 (fun _ _ _ _ _ => rfl) (fun _ => rfl)⟩, PySem.W.mg_of X G F.aC, F.ec, fun f hf => F.no f (List.mem_cons_of_mem _ hf)⟩
theorem mak14 (F : ClsF K "Locked" "Locked.__init__" B f0 C fI cc cda [("holder", ⟨123, 23, 123, 29⟩)] ⟨123, 17, 123, 21⟩ [supCall [.Name "holder" ⟨124, 25, 124, 31⟩] ⟨124, 8, 124, 13⟩ ⟨124, 8, 124, 15⟩ ⟨124, 8, 124, 24⟩ ⟨124, 8, 124, 32⟩ ⟨124, 8, 124, 32⟩, setF "holder" ⟨125, 8, 125, 12⟩ ⟨125, 8, 125, 19⟩ ⟨125, 22, 125, 28⟩ ⟨125, 8, 125, 28⟩]) (t0 : PySem.W.typeIn K (.ref f0) = some (.type "function")) (n0 : PySem.W.fnIn K f0 = true) (tp : PySem.W.nsIn K cStatics "thirdparty.any" = some none) (hms : mg "super" = none)
    (F0 : FnR P0 w K mg base CX0 2 f0 (spBase K)) (X : K.In h) (G : h.Ns mainGlobals mg) : Mak P0 w K mg base "Locked" C 1 ["holder"] :=
  ⟨F.oex, ⟨fI, F.iC, F.tI, init_one (by decide +kernel) (by decide +kernel) (by decide +kernel) (by decide +kernel) (by decide +kernel) (by decide +kernel) (F.iniT t0 n0 tp) hms F0 (fun _ _ _ _ _ => rfl) (fun _ => rfl)⟩, PySem.W.mg_of X G F.aC, F.ec, fun f hf => F.no f (List.mem_cons_of_mem _ hf)⟩
theorem mak15 (F : ClsF K "Stale" "Stale.__init__" B f0 C fI cc cda [("serial", ⟨128, 23, 128, 29⟩)] ⟨128, 17, 128, 21⟩ [supCall [.Name "serial" ⟨129, 25, 129, 31⟩] ⟨129, 8, 129, 13⟩ ⟨129, 8, 129, 15⟩ ⟨129, 8, 129, 24⟩ ⟨129, 8, 129, 32⟩ ⟨129, 8, 129, 32⟩, setF "serial" ⟨130, 8, 130, 12⟩ ⟨130, 8, 130, 19⟩ ⟨130, 22, 130, 28⟩ ⟨130, 8, 130, 28⟩]) (t0 : PySem.W.typeIn K (.ref f0) = some (.type "function")) (n0 : PySem.W.fnIn K f0 = true) (tp : PySem.W.nsIn K cStatics "thirdparty.any" = some none) (hms : mg "super" = none)
    (F0 : FnR P0 w K mg base CX0 2 f0 (spBase K)) (X : K.In h) (G : h.Ns mainGlobals mg) : Mak P0 w K mg base "Stale" C 1 ["serial"] :=
  ⟨F.oex, ⟨fI, F.iC, F.tI, init_one (by decide +kernel) (by decide +kernel) (by decide +kernel) (by decide +kernel) (by decide +kernel) (by decide +kernel) (F.iniT t0 n0 tp) hms F0 (fun _ _ _ _ _ => rfl) (fun _ => rfl)⟩, PySem.W.mg_of X G F.aC, F.ec, fun f hf => F.no f (List.mem_cons_of_mem _ hf)⟩
theorem mak16 (F : ClsF K "NotGeneric" "NotGeneric.__init__" B f0 C fI cc cda [("address", ⟨133, 23, 133, 30⟩)] ⟨133, 17, 133, 21⟩ [supCall [.Name "address" ⟨134, 25, 134, 32⟩] ⟨134, 8, 134, 13⟩ ⟨134, 8, 134, 15⟩ ⟨134, 8, 134, 24⟩ ⟨134, 8, 134, 33⟩ ⟨134, 8, 134, 33⟩, setF "address" ⟨135, 8, 135, 12⟩ ⟨135, 8, 135, 20⟩ ⟨135, 23, 135, 30⟩ ⟨135, 8, 135, 30⟩]) (t0 : PySem.W.typeIn K (.ref f0) = some (.type "function")) (n0 : PySem.W.fnIn K f0 = true) (tp : PySem.W.nsIn K cStatics "thirdparty.any" = some none) (hms : mg "super" = none)
    (F0 : FnR P0 w K mg base CX0 2 f0 (spBase K)) (X : K.In h) (G : h.Ns mainGlobals mg) : Mak P0 w K mg base "NotGeneric" C 1 ["address"] :=
  ⟨F.oex, ⟨fI, F.iC, F.tI, init_one (by decide +kernel) (by decide +kernel) (by decide +kernel) (by decide +kernel) (by decide +kernel) (by decide +kernel) (F.iniT t0 n0 tp) hms F0 (fun _ _ _ _ _ => rfl) (fun _ => rfl)⟩, PySem.W.mg_of X G F.aC, F.ec, fun f hf => F.no f (List.mem_cons_of_mem _ hf)⟩
theorem mak17 (F : ClsF K "BadConfig" "BadConfig.__init__" B f0 C fI cc cda [("at", ⟨56, 23, 56, 25⟩), ("why", ⟨56, 27, 56, 30⟩)] ⟨56, 17, 56, 21⟩ [supCall [.Name "at" ⟨57, 25, 57, 27⟩, .Name "why" ⟨57, 29, 57, 32⟩] ⟨57, 8, 57, 13⟩ ⟨57, 8, 57, 15⟩ ⟨57, 8, 57, 24⟩ ⟨57, 8, 57, 33⟩ ⟨57, 8, 57, 33⟩, setF "at" ⟨58, 8, 58, 12⟩ ⟨58, 8, 58, 15⟩ ⟨58, 18, 58, 20⟩ ⟨58, 8, 58, 20⟩, setF "why" ⟨59, 8, 59, 12⟩ ⟨59, 8, 59, 16⟩ ⟨59, 19, 59, 22⟩ ⟨59, 8, 59, 22⟩]) (t0 : PySem.W.typeIn K (.ref f0) = some (.type "function")) (n0 : PySem.W.fnIn K f0 = true) (tp : PySem.W.nsIn K cStatics "thirdparty.any" = some none) (hms : mg "super" = none)
    (F0 : FnR P0 w K mg base CX0 2 f0 (spBase K)) (X : K.In h) (G : h.Ns mainGlobals mg) : Mak P0 w K mg base "BadConfig" C 2 ["at", "why"] :=
  ⟨F.oex, ⟨fI, F.iC, F.tI, init_two (nscope_by (by decide +kernel)) rfl rfl rfl (by decide +kernel) (by decide +kernel) (by decide +kernel) (by decide +kernel) (F.iniT t0 n0 tp) hms F0 (fun _ _ _ _ _ _ => rfl) (fun _ => rfl)⟩, PySem.W.mg_of X G F.aC, F.ec, fun f hf => F.no f (List.mem_cons_of_mem _ hf)⟩
theorem mak18 (F : ClsF K "Lacking" "Lacking.__init__" B f0 C fI cc cda [("address", ⟨77, 23, 77, 30⟩), ("attribute", ⟨77, 32, 77, 41⟩)] ⟨77, 17, 77, 21⟩ [supCall [.Name "address" ⟨78, 25, 78, 32⟩, .Name "attribute" ⟨78, 34, 78, 43⟩] ⟨78, 8, 78, 13⟩ ⟨78, 8, 78, 15⟩ ⟨78, 8, 78, 24⟩ ⟨78, 8, 78, 44⟩ ⟨78, 8, 78, 44⟩, setF "address" ⟨79, 8, 79, 12⟩ ⟨79, 8, 79, 20⟩ ⟨79, 23, 79, 30⟩ ⟨79, 8, 79, 30⟩, setF "attribute" ⟨80, 8, 80, 12⟩ ⟨80, 8, 80, 22⟩ ⟨80, 25, 80, 34⟩ ⟨80, 8, 80, 34⟩]) (t0 : PySem.W.typeIn K (.ref f0) = some (.type "function")) (n0 : PySem.W.fnIn K f0 = true) (tp : PySem.W.nsIn K cStatics "thirdparty.any" = some none) (hms : mg "super" = none)
    (F0 : FnR P0 w K mg base CX0 2 f0 (spBase K)) (X : K.In h) (G : h.Ns mainGlobals mg) : Mak P0 w K mg base "Lacking" C 2 ["address", "attribute"] :=
  ⟨F.oex, ⟨fI, F.iC, F.tI, init_two (nscope_by (by decide +kernel)) rfl rfl rfl (by decide +kernel) (by decide +kernel) (by decide +kernel) (by decide +kernel) (F.iniT t0 n0 tp) hms F0 (fun _ _ _ _ _ _ => rfl) (fun _ => rfl)⟩, PySem.W.mg_of X G F.aC, F.ec, fun f hf => F.no f (List.mem_cons_of_mem _ hf)⟩
theorem mak19 (F : ClsF K "BadOrder" "BadOrder.__init__" B f0 C fI cc cda [("text", ⟨138, 23, 138, 27⟩)] ⟨138, 17, 138, 21⟩ [supCall [.Name "text" ⟨139, 25, 139, 29⟩] ⟨139, 8, 139, 13⟩ ⟨139, 8, 139, 15⟩ ⟨139, 8, 139, 24⟩ ⟨139, 8, 139, 30⟩ ⟨139, 8, 139, 30⟩]) (t0 : PySem.W.typeIn K (.ref f0) = some (.type "function")) (n0 : PySem.W.fnIn K f0 = true) (tp : PySem.W.nsIn K cStatics "thirdparty.any" = some none) (hms : mg "super" = none)
    (F0 : FnR P0 w K mg base CX0 2 f0 (spBase K)) (X : K.In h) (G : h.Ns mainGlobals mg) : Mak P0 w K mg base "BadOrder" C 1 [] :=
  ⟨F.oex, ⟨fI, F.iC, F.tI, init_nil (by decide +kernel) (by decide +kernel) (by decide +kernel) (by decide +kernel) (by decide +kernel) (by decide +kernel) (F.iniT t0 n0 tp) hms F0 (fun _ _ _ _ _ => rfl) (fun _ => rfl)⟩, PySem.W.mg_of X G F.aC, F.ec, fun f hf => F.no f (nomatch hf)⟩
theorem mak20 (F : ClsF K "BadSteps" "BadSteps.__init__" B f0 C fI cc cda [("text", ⟨142, 23, 142, 27⟩)] ⟨142, 17, 142, 21⟩ [supCall [.Name "text" ⟨143, 25, 143, 29⟩] ⟨143, 8, 143, 13⟩ ⟨143, 8, 143, 15⟩ ⟨143, 8, 143, 24⟩ ⟨143, 8, 143, 30⟩ ⟨143, 8, 143, 30⟩]) (t0 : PySem.W.typeIn K (.ref f0) = some (.type "function")) (n0 : PySem.W.fnIn K f0 = true) (tp : PySem.W.nsIn K cStatics "thirdparty.any" = some none) (hms : mg "super" = none)
    (F0 : FnR P0 w K mg base CX0 2 f0 (spBase K)) (X : K.In h) (G : h.Ns mainGlobals mg) : Mak P0 w K mg base "BadSteps" C 1 [] :=
  ⟨F.oex, ⟨fI, F.iC, F.tI, init_nil (by decide +kernel) (by decide +kernel) (by decide +kernel) (by decide +kernel) (by decide +kernel) (by decide +kernel) (F.iniT t0 n0 tp) hms F0 (fun _ _ _ _ _ => rfl) (fun _ => rfl)⟩, PySem.W.mg_of X G F.aC, F.ec, fun f hf => F.no f (nomatch hf)⟩
end
end Pf

set_option Elab.async false
set_option linter.all false
set_option maxRecDepth 100000
set_option maxHeartbeats 8000000
namespace Pf
open PySem PySem.Spec PyProof.Rows L2 Sup NdefX
/-- what the law's body comes to at given surroundings -/
def LawBody (w : World) (K : PySem.W.Frag) (mg : Str → Option Value) (base : Heap) (f : Addr) : Prop := ∀ (cdv : Value) (A : Around) (outer : List Env) (s : Shared) (H : Hp) (vs : List V) (Q : VK) (E : XK), A.guards = some [] →
  Room 5 (A.deeper (envOfC "law" (defScope sLaw) s.heap.objs.size f cdv)) → spLaw K vs H Q E →
  ∃ t, PSs (cxOf CX0 P0 w K mg base namesL "law" (defScope sLaw) f cdv A outer s H E).nox (defBody sLaw) t ∧ t { nx := fun _ H' => Q .non H', rt := Q } (start namesL vs) H

theorem fin {w : World} {K : PySem.W.Frag} {h : Heap} {mg : Str → Option Value} {fa B f0 : Addr} {fWell fDraw fOne fFirst fOthers fKinds fLaw : Addr} {C0 fI0 cc0 cda0 C1 fI1 cc1 cda1 C2 fI2 cc2 cda2 C3 fI3 cc3 cda3 C4 fI4 cc4 cda4 C5 fI5 cc5 cda5 C6 fI6 cc6 cda6 C7 fI7 cc7 cda7 C8 fI8 cc8 cda8 C9 fI9 cc9 cda9 C10 fI10 cc10 cda10 C11 fI11 cc11 cda11 C12 fI12 cc12 cda12 C13 fI13 cc13 cda13 C14 fI14 cc14 cda14 C15 fI15 cc15 cda15 C16 fI16 cc16 cda16 C17 fI17 cc17 cda17 C18 fI18 cc18 cda18 C19 fI19 cc19 cda19 C20 fI20 cc20 cda20 : Addr}
    {odB anB : Option Addr} {oslB : Array (Option Value)} {ocB kVB docB pmB cdvB ctB : Value} {odWell anWell odDraw anDraw odOne anOne odFirst anFirst odOthers anOthers odKinds anKinds odLaw anLaw : Option Addr} {slWell slDraw slOne slFirst slOthers slKinds slLaw : Array (Option Value)} {ocWell kVWell dcWell pmWell cdWell ctWell ocDraw kVDraw dcDraw pmDraw cdDraw ctDraw ocOne kVOne dcOne pmOne cdOne ctOne ocFirst kVFirst dcFirst pmFirst cdFirst ctFirst ocOthers kVOthers dcOthers pmOthers cdOthers ctOthers ocKinds kVKinds dcKinds pmKinds cdKinds ctKinds ocLaw kVLaw dcLaw pmLaw cdLaw ctLaw : Value}
    (X : K.In h) (G : h.Ns mainGlobals mg) (hfa : mg "law" = some (.ref fa))
    (aB : PySem.W.nsIn K mainGlobals "PlanError" = some (some (.ref B)))
    (iB : PySem.W.findIn K (.ref B) "__init__" = some (some (.ref f0)))
    (lB : K.lookup f0 = some ⟨ocB, odB, .func (PySem.W.fnOf "__init__" "PlanError.__init__" (bA ⟨34, 17, 34, 21⟩ ⟨34, 24, 34, 28⟩) (bB ⟨35, 8, 35, 12⟩ ⟨35, 8, 35, 17⟩ ⟨35, 20, 35, 24⟩ ⟨35, 8, 35, 24⟩) bS .none kVB docB pmB anB cdvB ctB), oslB⟩)
    (cB : PySem.W.codeIn K cdvB "PlanError.__init__" = true)
    (tB0 : PySem.W.typeIn K (.ref f0) = some (.type "function"))
    (nB0 : PySem.W.fnIn K f0 = true)
    (tp : PySem.W.nsIn K cStatics "thirdparty.any" = some none)
    (clB : PySem.W.isClsIn K B = true)
    (tyB : PySem.W.typeIn K (.ref B) = some (.type "type"))
    (gn : PySem.W.specialIn K (.builtin "object.__class__") "__get__" = some (some (.builtin "getset_descriptor.__get__")))
    (gt : PySem.W.takesIn K (.builtin "object.__class__") = some true)
    (e_int : PySem.W.nsIn K mainGlobals "int" = some none)
    (e_len : PySem.W.nsIn K mainGlobals "len" = some none)
    (e_repr : PySem.W.nsIn K mainGlobals "repr" = some none)
    (e_str : PySem.W.nsIn K mainGlobals "str" = some none)
    (e_enumerate : PySem.W.nsIn K mainGlobals "enumerate" = some none)
    (e_range : PySem.W.nsIn K mainGlobals "range" = some none)
    (e_bool : PySem.W.nsIn K mainGlobals "bool" = some none)
    (e_isinstance : PySem.W.nsIn K mainGlobals "isinstance" = some none)
    (e_ValueError : PySem.W.nsIn K mainGlobals "ValueError" = some none)
    (e_super : PySem.W.nsIn K mainGlobals "super" = some none)
    (aWell : PySem.W.nsIn K mainGlobals "_law_well" = some (some (.ref fWell)))
    (lWell : K.lookup fWell = some ⟨ocWell, odWell, .func (PySem.W.fnOf "_law_well" "_law_well" (defArgs sWell) (defBody sWell) (defScope sWell) .none kVWell dcWell pmWell anWell cdWell ctWell), slWell⟩)
    (cWell : PySem.W.codeIn K cdWell "_law_well" = true)
    (kWell : PySem.W.keepIn K (.ref fWell) = true)
    (aDraw : PySem.W.nsIn K mainGlobals "_law_draw" = some (some (.ref fDraw)))
    (lDraw : K.lookup fDraw = some ⟨ocDraw, odDraw, .func (PySem.W.fnOf "_law_draw" "_law_draw" (defArgs sDraw) (defBody sDraw) (defScope sDraw) .none kVDraw dcDraw pmDraw anDraw cdDraw ctDraw), slDraw⟩)
    (cDraw : PySem.W.codeIn K cdDraw "_law_draw" = true)
    (kDraw : PySem.W.keepIn K (.ref fDraw) = true)
    (aOne : PySem.W.nsIn K mainGlobals "_law_one" = some (some (.ref fOne)))
    (lOne : K.lookup fOne = some ⟨ocOne, odOne, .func (PySem.W.fnOf "_law_one" "_law_one" (defArgs sOne) (defBody sOne) (defScope sOne) .none kVOne dcOne pmOne anOne cdOne ctOne), slOne⟩)
    (cOne : PySem.W.codeIn K cdOne "_law_one" = true)
    (kOne : PySem.W.keepIn K (.ref fOne) = true)
    (aFirst : PySem.W.nsIn K mainGlobals "_law_first" = some (some (.ref fFirst)))
    (lFirst : K.lookup fFirst = some ⟨ocFirst, odFirst, .func (PySem.W.fnOf "_law_first" "_law_first" (defArgs sFirst) (defBody sFirst) (defScope sFirst) .none kVFirst dcFirst pmFirst anFirst cdFirst ctFirst), slFirst⟩)
    (cFirst : PySem.W.codeIn K cdFirst "_law_first" = true)
    (kFirst : PySem.W.keepIn K (.ref fFirst) = true)
    (aOthers : PySem.W.nsIn K mainGlobals "_law_others" = some (some (.ref fOthers)))
    (lOthers : K.lookup fOthers = some ⟨ocOthers, odOthers, .func (PySem.W.fnOf "_law_others" "_law_others" (defArgs sOthers) (defBody sOthers) (defScope sOthers) .none kVOthers dcOthers pmOthers anOthers cdOthers ctOthers), slOthers⟩)
    (cOthers : PySem.W.codeIn K cdOthers "_law_others" = true)
    (kOthers : PySem.W.keepIn K (.ref fOthers) = true)
    (aKinds : PySem.W.nsIn K mainGlobals "_law_kinds" = some (some (.ref fKinds)))
    (lKinds : K.lookup fKinds = some ⟨ocKinds, odKinds, .func (PySem.W.fnOf "_law_kinds" "_law_kinds" (defArgs sKinds) (defBody sKinds) (defScope sKinds) .none kVKinds dcKinds pmKinds anKinds cdKinds ctKinds), slKinds⟩)
    (cKinds : PySem.W.codeIn K cdKinds "_law_kinds" = true)
    (kKinds : PySem.W.keepIn K (.ref fKinds) = true)
    (aLaw : PySem.W.nsIn K mainGlobals "law" = some (some (.ref fLaw)))
    (lLaw : K.lookup fLaw = some ⟨ocLaw, odLaw, .func (PySem.W.fnOf "law" "law" (defArgs sLaw) (defBody sLaw) (defScope sLaw) .none kVLaw dcLaw pmLaw anLaw cdLaw ctLaw), slLaw⟩)
    (cLaw : PySem.W.codeIn K cdLaw "law" = true)
    (kLaw : PySem.W.keepIn K (.ref fLaw) = true)
    (q0 : ClsF K "Misfit" "Misfit.__init__" B f0 C0 fI0 cc0 cda0 [("expression", ⟨41, 23, 41, 33⟩)] ⟨41, 17, 41, 21⟩ [supCall [.Name "expression" ⟨42, 25, 42, 35⟩] ⟨42, 8, 42, 13⟩ ⟨42, 8, 42, 15⟩ ⟨42, 8, 42, 24⟩ ⟨42, 8, 42, 36⟩ ⟨42, 8, 42, 36⟩, setF "expression" ⟨43, 8, 43, 12⟩ ⟨43, 8, 43, 23⟩ ⟨43, 26, 43, 36⟩ ⟨43, 8, 43, 36⟩])
    (q1 : ClsF K "NoKind" "NoKind.__init__" B f0 C1 fI1 cc1 cda1 [("part", ⟨46, 23, 46, 27⟩)] ⟨46, 17, 46, 21⟩ [supCall [.Name "part" ⟨47, 25, 47, 29⟩] ⟨47, 8, 47, 13⟩ ⟨47, 8, 47, 15⟩ ⟨47, 8, 47, 24⟩ ⟨47, 8, 47, 30⟩ ⟨47, 8, 47, 30⟩, setF "part" ⟨48, 8, 48, 12⟩ ⟨48, 8, 48, 17⟩ ⟨48, 20, 48, 24⟩ ⟨48, 8, 48, 24⟩])
    (q2 : ClsF K "NoConfig" "NoConfig.__init__" B f0 C2 fI2 cc2 cda2 [("at", ⟨51, 23, 51, 25⟩)] ⟨51, 17, 51, 21⟩ [supCall [.Name "at" ⟨52, 25, 52, 27⟩] ⟨52, 8, 52, 13⟩ ⟨52, 8, 52, 15⟩ ⟨52, 8, 52, 24⟩ ⟨52, 8, 52, 28⟩ ⟨52, 8, 52, 28⟩, setF "at" ⟨53, 8, 53, 12⟩ ⟨53, 8, 53, 15⟩ ⟨53, 18, 53, 20⟩ ⟨53, 8, 53, 20⟩])
    (q3 : ClsF K "NoValue" "NoValue.__init__" B f0 C3 fI3 cc3 cda3 [("param", ⟨62, 23, 62, 28⟩)] ⟨62, 17, 62, 21⟩ [supCall [.Name "param" ⟨63, 25, 63, 30⟩] ⟨63, 8, 63, 13⟩ ⟨63, 8, 63, 15⟩ ⟨63, 8, 63, 24⟩ ⟨63, 8, 63, 31⟩ ⟨63, 8, 63, 31⟩, setF "param" ⟨64, 8, 64, 12⟩ ⟨64, 8, 64, 18⟩ ⟨64, 21, 64, 26⟩ ⟨64, 8, 64, 26⟩])
    (q4 : ClsF K "Unsure" "Unsure.__init__" B f0 C4 fI4 cc4 cda4 [("address", ⟨67, 23, 67, 30⟩)] ⟨67, 17, 67, 21⟩ [supCall [.Name "address" ⟨68, 25, 68, 32⟩] ⟨68, 8, 68, 13⟩ ⟨68, 8, 68, 15⟩ ⟨68, 8, 68, 24⟩ ⟨68, 8, 68, 33⟩ ⟨68, 8, 68, 33⟩, setF "address" ⟨69, 8, 69, 12⟩ ⟨69, 8, 69, 20⟩ ⟨69, 23, 69, 30⟩ ⟨69, 8, 69, 30⟩])
    (q5 : ClsF K "BadMany" "BadMany.__init__" B f0 C5 fI5 cc5 cda5 [("address", ⟨72, 23, 72, 30⟩)] ⟨72, 17, 72, 21⟩ [supCall [.Name "address" ⟨73, 25, 73, 32⟩] ⟨73, 8, 73, 13⟩ ⟨73, 8, 73, 15⟩ ⟨73, 8, 73, 24⟩ ⟨73, 8, 73, 33⟩ ⟨73, 8, 73, 33⟩, setF "address" ⟨74, 8, 74, 12⟩ ⟨74, 8, 74, 20⟩ ⟨74, 23, 74, 30⟩ ⟨74, 8, 74, 30⟩])
    (q6 : ClsF K "Refused" "Refused.__init__" B f0 C6 fI6 cc6 cda6 [("addresses", ⟨83, 23, 83, 32⟩)] ⟨83, 17, 83, 21⟩ [supCall [.Name "addresses" ⟨84, 25, 84, 34⟩] ⟨84, 8, 84, 13⟩ ⟨84, 8, 84, 15⟩ ⟨84, 8, 84, 24⟩ ⟨84, 8, 84, 35⟩ ⟨84, 8, 84, 35⟩, setF "addresses" ⟨85, 8, 85, 12⟩ ⟨85, 8, 85, 22⟩ ⟨85, 25, 85, 34⟩ ⟨85, 8, 85, 34⟩])
    (q7 : ClsF K "Ring" "Ring.__init__" B f0 C7 fI7 cc7 cda7 [("steps", ⟨88, 23, 88, 28⟩)] ⟨88, 17, 88, 21⟩ [supCall [.Name "steps" ⟨89, 25, 89, 30⟩] ⟨89, 8, 89, 13⟩ ⟨89, 8, 89, 15⟩ ⟨89, 8, 89, 24⟩ ⟨89, 8, 89, 31⟩ ⟨89, 8, 89, 31⟩, setF "steps" ⟨90, 8, 90, 12⟩ ⟨90, 8, 90, 18⟩ ⟨90, 21, 90, 26⟩ ⟨90, 8, 90, 26⟩])
    (q8 : ClsF K "Taken" "Taken.__init__" B f0 C8 fI8 cc8 cda8 [("tag", ⟨93, 23, 93, 26⟩)] ⟨93, 17, 93, 21⟩ [supCall [.Name "tag" ⟨94, 25, 94, 28⟩] ⟨94, 8, 94, 13⟩ ⟨94, 8, 94, 15⟩ ⟨94, 8, 94, 24⟩ ⟨94, 8, 94, 29⟩ ⟨94, 8, 94, 29⟩, setF "tag" ⟨95, 8, 95, 12⟩ ⟨95, 8, 95, 16⟩ ⟨95, 19, 95, 22⟩ ⟨95, 8, 95, 22⟩])
    (q9 : ClsF K "Gone" "Gone.__init__" B f0 C9 fI9 cc9 cda9 [("tag", ⟨98, 23, 98, 26⟩)] ⟨98, 17, 98, 21⟩ [supCall [.Name "tag" ⟨99, 25, 99, 28⟩] ⟨99, 8, 99, 13⟩ ⟨99, 8, 99, 15⟩ ⟨99, 8, 99, 24⟩ ⟨99, 8, 99, 29⟩ ⟨99, 8, 99, 29⟩, setF "tag" ⟨100, 8, 100, 12⟩ ⟨100, 8, 100, 16⟩ ⟨100, 19, 100, 22⟩ ⟨100, 8, 100, 22⟩])
    (q10 : ClsF K "InUse" "InUse.__init__" B f0 C10 fI10 cc10 cda10 [("tag", ⟨103, 23, 103, 26⟩)] ⟨103, 17, 103, 21⟩ [supCall [.Name "tag" ⟨104, 25, 104, 28⟩] ⟨104, 8, 104, 13⟩ ⟨104, 8, 104, 15⟩ ⟨104, 8, 104, 24⟩ ⟨104, 8, 104, 29⟩ ⟨104, 8, 104, 29⟩, setF "tag" ⟨105, 8, 105, 12⟩ ⟨105, 8, 105, 16⟩ ⟨105, 19, 105, 22⟩ ⟨105, 8, 105, 22⟩])
    (q11 : ClsF K "Occupied" "Occupied.__init__" B f0 C11 fI11 cc11 cda11 [("address", ⟨108, 23, 108, 30⟩)] ⟨108, 17, 108, 21⟩ [supCall [.Name "address" ⟨109, 25, 109, 32⟩] ⟨109, 8, 109, 13⟩ ⟨109, 8, 109, 15⟩ ⟨109, 8, 109, 24⟩ ⟨109, 8, 109, 33⟩ ⟨109, 8, 109, 33⟩, setF "address" ⟨110, 8, 110, 12⟩ ⟨110, 8, 110, 20⟩ ⟨110, 23, 110, 30⟩ ⟨110, 8, 110, 30⟩])
    (q12 : ClsF K "Owned" "Owned.__init__" B f0 C12 fI12 cc12 cda12 [("address", ⟨113, 23, 113, 30⟩)] ⟨113, 17, 113, 21⟩ [supCall [.Name "address" ⟨114, 25, 114, 32⟩] ⟨114, 8, 114, 13⟩ ⟨114, 8, 114, 15⟩ ⟨114, 8, 114, 24⟩ ⟨114, 8, 114, 33⟩ ⟨114, 8, 114, 33⟩, setF "address" ⟨115, 8, 115, 12⟩ ⟨115, 8, 115, 20⟩ ⟨115, 23, 115, 30⟩ ⟨115, 8, 115, 30⟩])
    (q13 : ClsF K "NotThere" "NotThere.__init__" B f0 C13 fI13 cc13 cda13 [("address", ⟨118, 23, 118, 30⟩)] ⟨118, 17, 118, 21⟩ [supCall [.Name "address" ⟨119, 25, 119, 32⟩] ⟨119, 8, 119, 13⟩ ⟨119, 8, 119, 15⟩ ⟨119, 8, 119, 24⟩ ⟨119, 8, 119, 33⟩ ⟨119, 8, 119, 33⟩, setF "address" ⟨120, 8, 120, 12⟩ ⟨120, 8, 120, 20⟩ ⟨120, 23, 120, 30⟩ ⟨120, 8, 120, 30⟩])
    (q14 : ClsF K "Locked" "Locked.__init__" B f0 C14 fI14 cc14 cda14 [("holder", ⟨123, 23, 123, 29⟩)] ⟨123, 17, 123, 21⟩ [supCall [.Name "holder" ⟨124, 25, 124, 31⟩] ⟨124, 8, 124, 13⟩ ⟨124, 8, 124, 15⟩ ⟨124, 8, 124, 24⟩ ⟨124, 8, 124, 32⟩ ⟨124, 8, 124, 32⟩, setF "holder" ⟨125, 8, 125, 12⟩ ⟨125, 8, 125, 19⟩ ⟨125, 22, 125, 28⟩ ⟨125, 8, 125, 28⟩])
    (q15 : ClsF K "Stale" "Stale.__init__" B f0 C15 fI15 cc15 cda15 [("serial", ⟨128, 23, 128, 29⟩)] ⟨128, 17, 128, 21⟩ [supCall [.Name "serial" ⟨129, 25, 129, 31⟩] ⟨129, 8, 129, 13⟩ ⟨129, 8, 129, 15⟩ ⟨129, 8, 129, 24⟩ ⟨129, 8, 129, 32⟩ ⟨129, 8, 129, 32⟩, setF "serial" ⟨130, 8, 130, 12⟩ ⟨130, 8, 130, 19⟩ ⟨130, 22, 130, 28⟩ ⟨130, 8, 130, 28⟩])
    (q16 : ClsF K "NotGeneric" "NotGeneric.__init__" B f0 C16 fI16 cc16 cda16 [("address", ⟨133, 23, 133, 30⟩)] ⟨133, 17, 133, 21⟩ [supCall [.Name "address" ⟨134, 25, 134, 32⟩] ⟨134, 8, 134, 13⟩ ⟨134, 8, 134, 15⟩ ⟨134, 8, 134, 24⟩ ⟨134, 8, 134, 33⟩ ⟨134, 8, 134, 33⟩, setF "address" ⟨135, 8, 135, 12⟩ ⟨135, 8, 135, 20⟩ ⟨135, 23, 135, 30⟩ ⟨135, 8, 135, 30⟩])
    (q17 : ClsF K "BadConfig" "BadConfig.__init__" B f0 C17 fI17 cc17 cda17 [("at", ⟨56, 23, 56, 25⟩), ("why", ⟨56, 27, 56, 30⟩)] ⟨56, 17, 56, 21⟩ [supCall [.Name "at" ⟨57, 25, 57, 27⟩, .Name "why" ⟨57, 29, 57, 32⟩] ⟨57, 8, 57, 13⟩ ⟨57, 8, 57, 15⟩ ⟨57, 8, 57, 24⟩ ⟨57, 8, 57, 33⟩ ⟨57, 8, 57, 33⟩, setF "at" ⟨58, 8, 58, 12⟩ ⟨58, 8, 58, 15⟩ ⟨58, 18, 58, 20⟩ ⟨58, 8, 58, 20⟩, setF "why" ⟨59, 8, 59, 12⟩ ⟨59, 8, 59, 16⟩ ⟨59, 19, 59, 22⟩ ⟨59, 8, 59, 22⟩])
    (q18 : ClsF K "Lacking" "Lacking.__init__" B f0 C18 fI18 cc18 cda18 [("address", ⟨77, 23, 77, 30⟩), ("attribute", ⟨77, 32, 77, 41⟩)] ⟨77, 17, 77, 21⟩ [supCall [.Name "address" ⟨78, 25, 78, 32⟩, .Name "attribute" ⟨78, 34, 78, 43⟩] ⟨78, 8, 78, 13⟩ ⟨78, 8, 78, 15⟩ ⟨78, 8, 78, 24⟩ ⟨78, 8, 78, 44⟩ ⟨78, 8, 78, 44⟩, setF "address" ⟨79, 8, 79, 12⟩ ⟨79, 8, 79, 20⟩ ⟨79, 23, 79, 30⟩ ⟨79, 8, 79, 30⟩, setF "attribute" ⟨80, 8, 80, 12⟩ ⟨80, 8, 80, 22⟩ ⟨80, 25, 80, 34⟩ ⟨80, 8, 80, 34⟩])
    (q19 : ClsF K "BadOrder" "BadOrder.__init__" B f0 C19 fI19 cc19 cda19 [("text", ⟨138, 23, 138, 27⟩)] ⟨138, 17, 138, 21⟩ [supCall [.Name "text" ⟨139, 25, 139, 29⟩] ⟨139, 8, 139, 13⟩ ⟨139, 8, 139, 15⟩ ⟨139, 8, 139, 24⟩ ⟨139, 8, 139, 30⟩ ⟨139, 8, 139, 30⟩])
    (q20 : ClsF K "BadSteps" "BadSteps.__init__" B f0 C20 fI20 cc20 cda20 [("text", ⟨142, 23, 142, 27⟩)] ⟨142, 17, 142, 21⟩ [supCall [.Name "text" ⟨143, 25, 143, 29⟩] ⟨143, 8, 143, 13⟩ ⟨143, 8, 143, 15⟩ ⟨143, 8, 143, 24⟩ ⟨143, 8, 143, 30⟩ ⟨143, 8, 143, 30⟩])
    (nd : [C0, C1, C2, C3, C4, C5, C6, C7, C8, C9, C10, C11, C12, C13, C14, C15, C16, C17, C18, C19, C20, B].Nodup) :
    ∃ fd : FuncData, Fun K "law" "law" sLaw fa fd ∧ (∀ (s : Shared) (u : Value), BindsTo s fd ⟨[u], []⟩ [("_law_script", u)]) ∧ ∀ base : Heap, K.In base → base.Ns mainGlobals mg → LawBody w K mg base fa := by
  have eL := hfa.symm.trans (PySem.W.mg_of X G aLaw)
  cases eL
  have FWell := fun_mk (st := sWell) lWell cWell kWell
  have bWell := FWell.binds (ps := ["_law_cell"]) fun _ _ _ _ _ _ us hl => match us, hl with | [_], _ => rfl
  have FDraw := fun_mk (st := sDraw) lDraw cDraw kDraw
  have bDraw := FDraw.binds (ps := ["_law_well_here", "_law_below"]) fun _ _ _ _ _ _ us hl => match us, hl with | [_, _], _ => rfl
  have FOne := fun_mk (st := sOne) lOne cOne kOne
  have bOne := FOne.binds (ps := ["_law_well_here", "_law_some"]) fun _ _ _ _ _ _ us hl => match us, hl with | [_, _], _ => rfl
  have FFirst := fun_mk (st := sFirst) lFirst cFirst kFirst
  have bFirst := FFirst.binds (ps := ["_law_thing"]) fun _ _ _ _ _ _ us hl => match us, hl with | [_], _ => rfl
  have FOthers := fun_mk (st := sOthers) lOthers cOthers kOthers
  have bOthers := FOthers.binds (ps := ["_law_thing"]) fun _ _ _ _ _ _ us hl => match us, hl with | [_], _ => rfl
  have FKinds := fun_mk (st := sKinds) lKinds cKinds kKinds
  have bKinds := FKinds.binds (ps := ["_law_error"]) fun _ _ _ _ _ _ us hl => match us, hl with | [_], _ => rfl
  have FLaw := fun_mk (st := sLaw) lLaw cLaw kLaw
  have bLaw := FLaw.binds (ps := ["_law_script"]) fun _ _ _ _ _ _ us hl => match us, hl with | [_], _ => rfl
  have g_int : mg "int" = none := PySem.W.mg_none_of X G e_int
  have g_len : mg "len" = none := PySem.W.mg_none_of X G e_len
  have g_repr : mg "repr" = none := PySem.W.mg_none_of X G e_repr
  have g_str : mg "str" = none := PySem.W.mg_none_of X G e_str
  have g_enumerate : mg "enumerate" = none := PySem.W.mg_none_of X G e_enumerate
  have g_range : mg "range" = none := PySem.W.mg_none_of X G e_range
  have g_bool : mg "bool" = none := PySem.W.mg_none_of X G e_bool
  have g_isinstance : mg "isinstance" = none := PySem.W.mg_none_of X G e_isinstance
  have g_ValueError : mg "ValueError" = none := PySem.W.mg_none_of X G e_ValueError
  have g_super : mg "super" = none := PySem.W.mg_none_of X G e_super
  have F0 : ∀ base : Heap, FnR P0 w K mg base CX0 2 f0 (spBase K) := fun base => base_fn lB cB
  let Cs : Nat → Addr := fun i => ([C0, C1, C2, C3, C4, C5, C6, C7, C8, C9, C10, C11, C12, C13, C14, C15, C16, C17, C18, C19, C20] : List Addr).getD i 0
  have all : ∀ i, i < 21 → ∃ x qual fI cc cda fs p1 body, ClsF K x qual B f0 (Cs i) fI cc cda fs p1 body := by
    intro i hi
    match i, hi with
    | 0, _ => exact ⟨_, _, _, _, _, _, _, _, q0⟩
    | 1, _ => exact ⟨_, _, _, _, _, _, _, _, q1⟩
    | 2, _ => exact ⟨_, _, _, _, _, _, _, _, q2⟩
    | 3, _ => exact ⟨_, _, _, _, _, _, _, _, q3⟩
    | 4, _ => exact ⟨_, _, _, _, _, _, _, _, q4⟩
    | 5, _ => exact ⟨_, _, _, _, _, _, _, _, q5⟩
    | 6, _ => exact ⟨_, _, _, _, _, _, _, _, q6⟩
    | 7, _ => exact ⟨_, _, _, _, _, _, _, _, q7⟩
    | 8, _ => exact ⟨_, _, _, _, _, _, _, _, q8⟩
    | 9, _ => exact ⟨_, _, _, _, _, _, _, _, q9⟩
    | 10, _ => exact ⟨_, _, _, _, _, _, _, _, q10⟩
    | 11, _ => exact ⟨_, _, _, _, _, _, _, _, q11⟩
    | 12, _ => exact ⟨_, _, _, _, _, _, _, _, q12⟩
    | 13, _ => exact ⟨_, _, _, _, _, _, _, _, q13⟩
    | 14, _ => exact ⟨_, _, _, _, _, _, _, _, q14⟩
    | 15, _ => exact ⟨_, _, _, _, _, _, _, _, q15⟩
    | 16, _ => exact ⟨_, _, _, _, _, _, _, _, q16⟩
    | 17, _ => exact ⟨_, _, _, _, _, _, _, _, q17⟩
    | 18, _ => exact ⟨_, _, _, _, _, _, _, _, q18⟩
    | 19, _ => exact ⟨_, _, _, _, _, _, _, _, q19⟩
    | 20, _ => exact ⟨_, _, _, _, _, _, _, _, q20⟩
    | i + 21, h => exact absurd h (by omega)
  have at_ : ∀ i, i < 21 → ([C0, C1, C2, C3, C4, C5, C6, C7, C8, C9, C10, C11, C12, C13, C14, C15, C16, C17, C18, C19, C20, B] : List Addr)[i]? = some (Cs i) := by
    intro i hi
    match i, hi with
    | 0, _ => rfl
    | 1, _ => rfl
    | 2, _ => rfl
    | 3, _ => rfl
    | 4, _ => rfl
    | 5, _ => rfl
    | 6, _ => rfl
    | 7, _ => rfl
    | 8, _ => rfl
    | 9, _ => rfl
    | 10, _ => rfl
    | 11, _ => rfl
    | 12, _ => rfl
    | 13, _ => rfl
    | 14, _ => rfl
    | 15, _ => rfl
    | 16, _ => rfl
    | 17, _ => rfl
    | 18, _ => rfl
    | 19, _ => rfl
    | 20, _ => rfl
    | i + 21, h => exact absurd h (by omega)
  have neB : ∀ i, i < 21 → B ≠ Cs i := fun i hi e => by
    have z := nd_ix nd (at_ i hi) (show ([C0, C1, C2, C3, C4, C5, C6, C7, C8, C9, C10, C11, C12, C13, C14, C15, C16, C17, C18, C19, C20, B] : List Addr)[21]? = some (Cs i) by rw [← e]; rfl)
    omega
  have M : ∀ base : Heap, Maks P0 w K mg base Cs B := fun base => {
    m0 := mak0 q0 tB0 nB0 tp g_super (F0 base) X G
    m1 := mak1 q1 tB0 nB0 tp g_super (F0 base) X G
    m2 := mak2 q2 tB0 nB0 tp g_super (F0 base) X G
    m3 := mak3 q3 tB0 nB0 tp g_super (F0 base) X G
    m4 := mak4 q4 tB0 nB0 tp g_super (F0 base) X G
    m5 := mak5 q5 tB0 nB0 tp g_super (F0 base) X G
    m6 := mak6 q6 tB0 nB0 tp g_super (F0 base) X G
    m7 := mak7 q7 tB0 nB0 tp g_super (F0 base) X G
    m8 := mak8 q8 tB0 nB0 tp g_super (F0 base) X G
    m9 := mak9 q9 tB0 nB0 tp g_super (F0 base) X G
    m10 := mak10 q10 tB0 nB0 tp g_super (F0 base) X G
    m11 := mak11 q11 tB0 nB0 tp g_super (F0 base) X G
    m12 := mak12 q12 tB0 nB0 tp g_super (F0 base) X G
    m13 := mak13 q13 tB0 nB0 tp g_super (F0 base) X G
    m14 := mak14 q14 tB0 nB0 tp g_super (F0 base) X G
    m15 := mak15 q15 tB0 nB0 tp g_super (F0 base) X G
    m16 := mak16 q16 tB0 nB0 tp g_super (F0 base) X G
    m17 := mak17 q17 tB0 nB0 tp g_super (F0 base) X G
    m18 := mak18 q18 tB0 nB0 tp g_super (F0 base) X G
    m19 := mak19 q19 tB0 nB0 tp g_super (F0 base) X G
    m20 := mak20 q20 tB0 nB0 tp g_super (F0 base) X G
    ec := fun i hi => by
      obtain ⟨_, _, _, _, _, _, _, _, q⟩ := all i hi
      exact q.ec
    kit := fun i j hi hj => by
      obtain ⟨_, _, _, _, _, _, _, _, q⟩ := all i hi
      obtain ⟨_, _, _, _, _, _, _, _, q'⟩ := all j hj
      by_cases e : i = j
      · subst e
        rw [decide_eq_true rfl]
        unfold PySem.W.kitOne
        rw [if_pos (by simp)]
      · rw [decide_eq_false e]
        refine q.kitC q' (fun z => e ?_) (neB j hj)
        exact nd_ix nd (at_ i hi) (by rw [z]; exact at_ j hj)
    kitB := fun i hi => by
      obtain ⟨_, _, _, _, _, _, _, _, q⟩ := all i hi
      exact q.kitB clB tyB
    kitV := fun i hi => by
      obtain ⟨_, _, _, _, _, _, _, _, q⟩ := all i hi
      exact q.kitV
    gB := PySem.W.mg_of X G aB
    gt := ⟨gn, gt⟩
    isi := g_isinstance
    ve := g_ValueError }
  have TN : TxtN mg := ⟨g_int, g_len⟩
  have T : TxtL mg fWell fOne fFirst fOthers fKinds := ⟨PySem.W.mg_of X G aWell, PySem.W.mg_of X G aOne, PySem.W.mg_of X G aFirst, PySem.W.mg_of X G aOthers, PySem.W.mg_of X G aKinds, g_repr, g_str, g_enumerate, g_range, g_bool⟩
  refine ⟨_, FLaw, fun s u => .of_eq rfl, fun base kb nb => ?_⟩
  intro cdv A outer s H vs Q E hgd hr hsp
  exact law_body (M base) T FWell bWell (ok_well FWell TN) FOne bOne (ok_one (fL := fDraw) FOne TN FDraw bDraw (PySem.W.mg_of X G aDraw)) FFirst bFirst (ok_first FFirst (M base)) FOthers bOthers (ok_others FOthers (M base)) FKinds bKinds (ok_kinds FKinds (M base)) cdv A outer s H vs Q E hgd hr hsp
/-- the law's end over the head -/
theorem walk {q : Program} {loose : List Str} {XP : (Str → Option Value) → Heap → Prop} {YP : World → Heap → Prop} {d : DefRec} {K : Params → PySem.W.Frag} (hdf : d.params.defaults = []) (hY : ∀ (w : World) (h : Heap), YP w h → (K w.params).In h)
    (F : ∀ (w : World) (mg : Str → Option Value) (fa : Addr)
        (h : Heap), (K w.params).In h → h.Ns mainGlobals mg → mg d.name = some (.ref fa) →
      ∃ fd : FuncData, Fun (K w.params) "law" "law" sLaw fa fd ∧ (∀ (s : Shared) (u : Value), BindsTo s fd ⟨[u], []⟩ [("_law_script", u)]) ∧ ∀ base : Heap, (K w.params).In base → base.Ns mainGlobals mg → LawBody w (K w.params) mg base fa) :
    PySem.W.WalkO q loose XP YP PySem.Challenge.rw_planfirst_k06_errors_by_hand.row.toRowW d [] (fun f vs => PySem.call f vs) := by
  refine Att.attach_call (l := PySem.Challenge.rw_planfirst_k06_errors_by_hand) (n := 63) rfl hdf fun w s₀ s₁ mg mb fa o pm cd doc a us ns Gr Y ho hd hcd hmg hobj hints hlen hg => ?_
  have KX := hY w _ Y
  obtain ⟨fd, FL, hb, hF⟩ := F w mg fa _ KX Gr.T.g hmg
  refine Ends.callG KX Gr.T.g Gr.T.b Gr.T.builtins Gr.T.nolimit hg hobj hints (Nat.le_trans hlen (by decide)) fun base H kin nsb e0 hS => ?_
  exact Ends.runAt (vs := [.ref a]) (us := [.ref a]) (k := 5) FL scLaw rfl ⟨rfl, by decide, by decide⟩ e0 (hb s₁ (.ref a)) (.cons rfl .nil) fun cdv hr => hF base kin nsb cdv callerA [] s₁ H [.ref a] (fun v _ => v = .bl true) E0 rfl hr ⟨a, ns, rfl, hS, hlen, fun _ => rfl⟩
end Pf

open PySem PySem.W PyProof.Rows
set_option Elab.async false
set_option maxRecDepth 100000 in
set_option maxHeartbeats 0 in
theorem PySem.Challenge.cw_planfirst_k06_errors_by_hand_holds : PySem.Challenge.rw_planfirst_k06_errors_by_hand.Holds := by
  w_on; o_law; k_head; (case hw => w_witness2)
  k_fill
  refine Pf.walk rfl (fun w h Y => PySem.W.kIn_of Y) ?F
  case F =>
    intro w mg fa h KX G hmg
    refine' Pf.fin KX G hmg ?aB ?iB ?lB ?cB ?tB0 ?nB0 ?tp ?clB ?tyB ?gn ?gt ?e_int ?e_len ?e_repr ?e_str ?e_enumerate ?e_range ?e_bool ?e_isinstance ?e_ValueError ?e_super ?aWell ?lWell ?cWell ?kWell ?aDraw ?lDraw ?cDraw ?kDraw ?aOne ?lOne ?cOne ?kOne ?aFirst ?lFirst ?cFirst ?kFirst ?aOthers ?lOthers ?cOthers ?kOthers ?aKinds ?lKinds ?cKinds ?kKinds ?aLaw ?lLaw ?cLaw ?kLaw
      ⟨?aC0, ⟨_, _, _, _, _, _, _, _, _, _, _, _, _, _, ?xC0⟩, ?sa0, ?ga0, ?gg0, ?exC0, ?tyC0, ?kC0, ?hdC0, ?cl0, ?st0, ?iC0, ?tI0, ⟨_, _, _, _, _, _, ?lk0⟩, ?cd0, ⟨_, _, _, ?ce0⟩, ⟨_, _, _, _, _, _, ?co0, ?cv0, ?cf0⟩, ?no0, ?su0⟩
      ⟨?aC1, ⟨_, _, _, _, _, _, _, _, _, _, _, _, _, _, ?xC1⟩, ?sa1, ?ga1, ?gg1, ?exC1, ?tyC1, ?kC1, ?hdC1, ?cl1, ?st1, ?iC1, ?tI1, ⟨_, _, _, _, _, _, ?lk1⟩, ?cd1, ⟨_, _, _, ?ce1⟩, ⟨_, _, _, _, _, _, ?co1, ?cv1, ?cf1⟩, ?no1, ?su1⟩
      ⟨?aC2, ⟨_, _, _, _, _, _, _, _, _, _, _, _, _, _, ?xC2⟩, ?sa2, ?ga2, ?gg2, ?exC2, ?tyC2, ?kC2, ?hdC2, ?cl2, ?st2, ?iC2, ?tI2, ⟨_, _, _, _, _, _, ?lk2⟩, ?cd2, ⟨_, _, _, ?ce2⟩, ⟨_, _, _, _, _, _, ?co2, ?cv2, ?cf2⟩, ?no2, ?su2⟩
      ⟨?aC3, ⟨_, _, _, _, _, _, _, _, _, _, _, _, _, _, ?xC3⟩, ?sa3, ?ga3, ?gg3, ?exC3, ?tyC3, ?kC3, ?hdC3, ?cl3, ?st3, ?iC3, ?tI3, ⟨_, _, _, _, _, _, ?lk3⟩, ?cd3, ⟨_, _, _, ?ce3⟩, ⟨_, _, _, _, _, _, ?co3, ?cv3, ?cf3⟩, ?no3, ?su3⟩
      ⟨?aC4, ⟨_, _, _, _, _, _, _, _, _, _, _, _, _, _, ?xC4⟩, ?sa4, ?ga4, ?gg4, ?exC4, ?tyC4, ?kC4, ?hdC4, ?cl4, ?st4, ?iC4, ?tI4, ⟨_, _, _, _, _, _, ?lk4⟩, ?cd4, ⟨_, _, _, ?ce4⟩, ⟨_, _, _, _, _, _, ?co4, ?cv4, ?cf4⟩, ?no4, ?su4⟩
      ⟨?aC5, ⟨_, _, _, _, _, _, _, _, _, _, _, _, _, _, ?xC5⟩, ?sa5, ?ga5, ?gg5, ?exC5, ?tyC5, ?kC5, ?hdC5, ?cl5, ?st5, ?iC5, ?tI5, ⟨_, _, _, _, _, _, ?lk5⟩, ?cd5, ⟨_, _, _, ?ce5⟩, ⟨_, _, _, _, _, _, ?co5, ?cv5, ?cf5⟩, ?no5, ?su5⟩
      ⟨?aC6, ⟨_, _, _, _, _, _, _, _, _, _, _, _, _, _, ?xC6⟩, ?sa6, ?ga6, ?gg6, ?exC6, ?tyC6, ?kC6, ?hdC6, ?cl6, ?st6, ?iC6, ?tI6, ⟨_, _, _, _, _, _, ?lk6⟩, ?cd6, ⟨_, _, _, ?ce6⟩, ⟨_, _, _, _, _, _, ?co6, ?cv6, ?cf6⟩, ?no6, ?su6⟩
      ⟨?aC7, ⟨_, _, _, _, _, _, _, _, _, _, _, _, _, _, ?xC7⟩, ?sa7, ?ga7, ?gg7, ?exC7, ?tyC7, ?kC7, ?hdC7, ?cl7, ?st7, ?iC7, ?tI7, ⟨_, _, _, _, _, _, ?lk7⟩, ?cd7, ⟨_, _, _, ?ce7⟩, ⟨_, _, _, _, _, _, ?co7, ?cv7, ?cf7⟩, ?no7, ?su7⟩
      ⟨?aC8, ⟨_, _, _, _, _, _, _, _, _, _, _, _, _, _, ?xC8⟩, ?sa8, ?ga8, ?gg8, ?exC8, ?tyC8, ?kC8, ?hdC8, ?cl8, ?st8, ?iC8, ?tI8, ⟨_, _, _, _, _, _, ?lk8⟩, ?cd8, ⟨_, _, _, ?ce8⟩, ⟨_, _, _, _, _, _, ?co8, ?cv8, ?cf8⟩, ?no8, ?su8⟩
      ⟨?aC9, ⟨_, _, _, _, _, _, _, _, _, _, _, _, _, _, ?xC9⟩, ?sa9, ?ga9, ?gg9, ?exC9, ?tyC9, ?kC9, ?hdC9, ?cl9, ?st9, ?iC9, ?tI9, ⟨_, _, _, _, _, _, ?lk9⟩, ?cd9, ⟨_, _, _, ?ce9⟩, ⟨_, _, _, _, _, _, ?co9, ?cv9, ?cf9⟩, ?no9, ?su9⟩
      ⟨?aC10, ⟨_, _, _, _, _, _, _, _, _, _, _, _, _, _, ?xC10⟩, ?sa10, ?ga10, ?gg10, ?exC10, ?tyC10, ?kC10, ?hdC10, ?cl10, ?st10, ?iC10, ?tI10, ⟨_, _, _, _, _, _, ?lk10⟩, ?cd10, ⟨_, _, _, ?ce10⟩, ⟨_, _, _, _, _, _, ?co10, ?cv10, ?cf10⟩, ?no10, ?su10⟩
      ⟨?aC11, ⟨_, _, _, _, _, _, _, _, _, _, _, _, _, _, ?xC11⟩, ?sa11, ?ga11, ?gg11, ?exC11, ?tyC11, ?kC11, ?hdC11, ?cl11, ?st11, ?iC11, ?tI11, ⟨_, _, _, _, _, _, ?lk11⟩, ?cd11, ⟨_, _, _, ?ce11⟩, ⟨_, _, _, _, _, _, ?co11, ?cv11, ?cf11⟩, ?no11, ?su11⟩
      ⟨?aC12, ⟨_, _, _, _, _, _, _, _, _, _, _, _, _, _, ?xC12⟩, ?sa12, ?ga12, ?gg12, ?exC12, ?tyC12, ?kC12, ?hdC12, ?cl12, ?st12, ?iC12, ?tI12, ⟨_, _, _, _, _, _, ?lk12⟩, ?cd12, ⟨_, _, _, ?ce12⟩, ⟨_, _, _, _, _, _, ?co12, ?cv12, ?cf12⟩, ?no12, ?su12⟩
      ⟨?aC13, ⟨_, _, _, _, _, _, _, _, _, _, _, _, _, _, ?xC13⟩, ?sa13, ?ga13, ?gg13, ?exC13, ?tyC13, ?kC13, ?hdC13, ?cl13, ?st13, ?iC13, ?tI13, ⟨_, _, _, _, _, _, ?lk13⟩, ?cd13, ⟨_, _, _, ?ce13⟩, ⟨_, _, _, _, _, _, ?co13, ?cv13, ?cf13⟩, ?no13, ?su13⟩
      ⟨?aC14, ⟨_, _, _, _, _, _, _, _, _, _, _, _, _, _, ?xC14⟩, ?sa14, ?ga14, ?gg14, ?exC14, ?tyC14, ?kC14, ?hdC14, ?cl14, ?st14, ?iC14, ?tI14, ⟨_, _, _, _, _, _, ?lk14⟩, ?cd14, ⟨_, _, _, ?ce14⟩, ⟨_, _, _, _, _, _, ?co14, ?cv14, ?cf14⟩, ?no14, ?su14⟩
      ⟨?aC15, ⟨_, _, _, _, _, _, _, _, _, _, _, _, _, _, ?xC15⟩, ?sa15, ?ga15, ?gg15, ?exC15, ?tyC15, ?kC15, ?hdC15, ?cl15, ?st15, ?iC15, ?tI15, ⟨_, _, _, _, _, _, ?lk15⟩, ?cd15, ⟨_, _, _, ?ce15⟩, ⟨_, _, _, _, _, _, ?co15, ?cv15, ?cf15⟩, ?no15, ?su15⟩
      ⟨?aC16, ⟨_, _, _, _, _, _, _, _, _, _, _, _, _, _, ?xC16⟩, ?sa16, ?ga16, ?gg16, ?exC16, ?tyC16, ?kC16, ?hdC16, ?cl16, ?st16, ?iC16, ?tI16, ⟨_, _, _, _, _, _, ?lk16⟩, ?cd16, ⟨_, _, _, ?ce16⟩, ⟨_, _, _, _, _, _, ?co16, ?cv16, ?cf16⟩, ?no16, ?su16⟩
      ⟨?aC17, ⟨_, _, _, _, _, _, _, _, _, _, _, _, _, _, ?xC17⟩, ?sa17, ?ga17, ?gg17, ?exC17, ?tyC17, ?kC17, ?hdC17, ?cl17, ?st17, ?iC17, ?tI17, ⟨_, _, _, _, _, _, ?lk17⟩, ?cd17, ⟨_, _, _, ?ce17⟩, ⟨_, _, _, _, _, _, ?co17, ?cv17, ?cf17⟩, ?no17, ?su17⟩
      ⟨?aC18, ⟨_, _, _, _, _, _, _, _, _, _, _, _, _, _, ?xC18⟩, ?sa18, ?ga18, ?gg18, ?exC18, ?tyC18, ?kC18, ?hdC18, ?cl18, ?st18, ?iC18, ?tI18, ⟨_, _, _, _, _, _, ?lk18⟩, ?cd18, ⟨_, _, _, ?ce18⟩, ⟨_, _, _, _, _, _, ?co18, ?cv18, ?cf18⟩, ?no18, ?su18⟩
      ⟨?aC19, ⟨_, _, _, _, _, _, _, _, _, _, _, _, _, _, ?xC19⟩, ?sa19, ?ga19, ?gg19, ?exC19, ?tyC19, ?kC19, ?hdC19, ?cl19, ?st19, ?iC19, ?tI19, ⟨_, _, _, _, _, _, ?lk19⟩, ?cd19, ⟨_, _, _, ?ce19⟩, ⟨_, _, _, _, _, _, ?co19, ?cv19, ?cf19⟩, ?no19, ?su19⟩
      ⟨?aC20, ⟨_, _, _, _, _, _, _, _, _, _, _, _, _, _, ?xC20⟩, ?sa20, ?ga20, ?gg20, ?exC20, ?tyC20, ?kC20, ?hdC20, ?cl20, ?st20, ?iC20, ?tI20, ⟨_, _, _, _, _, _, ?lk20⟩, ?cd20, ⟨_, _, _, ?ce20⟩, ⟨_, _, _, _, _, _, ?co20, ?cv20, ?cf20⟩, ?no20, ?su20⟩ ?nd
    (case aB => k_is)
    (case iB => k_is)
    (case lB => k_is)
    (case cB => k_is)
    (case tB0 => k_is)
    (case nB0 => k_is)
    (case tp => k_is)
    (case clB => k_is)
    (case tyB => k_is)
    (case gn => k_is)
    (case gt => k_is)
    (case e_int => k_is)
    (case e_len => k_is)
    (case e_repr => k_is)
    (case e_str => k_is)
    (case e_enumerate => k_is)
    (case e_range => k_is)
    (case e_bool => k_is)
    (case e_isinstance => k_is)
    (case e_ValueError => k_is)
    (case e_super => k_is)
    (case aWell => k_is)
    (case lWell => k_is)
    (case cWell => k_is)
    (case kWell => k_is)
    (case aDraw => k_is)
    (case lDraw => k_is)
    (case cDraw => k_is)
    (case kDraw => k_is)
    (case aOne => k_is)
    (case lOne => k_is)
    (case cOne => k_is)
    (case kOne => k_is)
    (case aFirst => k_is)
    (case lFirst => k_is)
    (case cFirst => k_is)
    (case kFirst => k_is)
    (case aOthers => k_is)
    (case lOthers => k_is)
    (case cOthers => k_is)
    (case kOthers => k_is)
    (case aKinds => k_is)
    (case lKinds => k_is)
    (case cKinds => k_is)
    (case kKinds => k_is)
    (case aLaw => k_is)
    (case lLaw => k_is)
    (case cLaw => k_is)
    (case kLaw => k_is)
    (case aC0 => k_is)
    (case xC0 => (apply Eq.trans; k_is; rfl))
    (case sa0 => k_is)
    (case ga0 => k_is)
    (case gg0 => k_is)
    (case exC0 => k_is)
    (case tyC0 => k_is)
    (case kC0 => k_is)
    (case hdC0 => k_is)
    (case cl0 => k_is)
    (case st0 => k_is)
    (case iC0 => k_is)
    (case lk0 => (apply Eq.trans; k_is; rfl))
    (case tI0 => k_is)
    (case cd0 => k_is)
    (case ce0 => (apply Eq.trans; k_is; rfl))
    (case co0 => (apply Eq.trans; k_is; rfl))
    (case cv0 => rfl)
    (case cf0 => decide +kernel)
    (case no0 => (intro f hf; (rcases List.mem_cons.mp hf with rfl | hf; k_is); (rcases List.mem_cons.mp hf with rfl | hf; k_is); exact nomatch hf))
    (case su0 => ks_is)
    (case aC1 => k_is)
    (case xC1 => (apply Eq.trans; k_is; rfl))
    (case sa1 => k_is)
    (case ga1 => k_is)
    (case gg1 => k_is)
    (case exC1 => k_is)
    (case tyC1 => k_is)
    (case kC1 => k_is)
    (case hdC1 => k_is)
    (case cl1 => k_is)
    (case st1 => k_is)
    (case iC1 => k_is)
    (case lk1 => (apply Eq.trans; k_is; rfl))
    (case tI1 => k_is)
    (case cd1 => k_is)
    (case ce1 => (apply Eq.trans; k_is; rfl))
    (case co1 => (apply Eq.trans; k_is; rfl))
    (case cv1 => rfl)
    (case cf1 => decide +kernel)
    (case no1 => (intro f hf; (rcases List.mem_cons.mp hf with rfl | hf; k_is); (rcases List.mem_cons.mp hf with rfl | hf; k_is); exact nomatch hf))
    (case su1 => ks_is)
    (case aC2 => k_is)
    (case xC2 => (apply Eq.trans; k_is; rfl))
    (case sa2 => k_is)
    (case ga2 => k_is)
    (case gg2 => k_is)
    (case exC2 => k_is)
    (case tyC2 => k_is)
    (case kC2 => k_is)
    (case hdC2 => k_is)
    (case cl2 => k_is)
    (case st2 => k_is)
    (case iC2 => k_is)
    (case lk2 => (apply Eq.trans; k_is; rfl))
    (case tI2 => k_is)
    (case cd2 => k_is)
    (case ce2 => (apply Eq.trans; k_is; rfl))
    (case co2 => (apply Eq.trans; k_is; rfl))
    (case cv2 => rfl)
    (case cf2 => decide +kernel)
    (case no2 => (intro f hf; (rcases List.mem_cons.mp hf with rfl | hf; k_is); (rcases List.mem_cons.mp hf with rfl | hf; k_is); exact nomatch hf))
    (case su2 => ks_is)
    (case aC3 => k_is)
    (case xC3 => (apply Eq.trans; k_is; rfl))
    (case sa3 => k_is)
    (case ga3 => k_is)
    (case gg3 => k_is)
    (case exC3 => k_is)
    (case tyC3 => k_is)
    (case kC3 => k_is)
    (case hdC3 => k_is)
    (case cl3 => k_is)
    (case st3 => k_is)
    (case iC3 => k_is)
    (case lk3 => (apply Eq.trans; k_is; rfl))
    (case tI3 => k_is)
    (case cd3 => k_is)
    (case ce3 => (apply Eq.trans; k_is; rfl))
    (case co3 => (apply Eq.trans; k_is; rfl))
    (case cv3 => rfl)
    (case cf3 => decide +kernel)
    (case no3 => (intro f hf; (rcases List.mem_cons.mp hf with rfl | hf; k_is); (rcases List.mem_cons.mp hf with rfl | hf; k_is); exact nomatch hf))
    (case su3 => ks_is)
    (case aC4 => k_is)
    (case xC4 => (apply Eq.trans; k_is; rfl))
    (case sa4 => k_is)
    (case ga4 => k_is)
    (case gg4 => k_is)
    (case exC4 => k_is)
    (case tyC4 => k_is)
    (case kC4 => k_is)
    (case hdC4 => k_is)
    (case cl4 => k_is)
    (case st4 => k_is)
    (case iC4 => k_is)
    (case lk4 => (apply Eq.trans; k_is; rfl))
    (case tI4 => k_is)
    (case cd4 => k_is)
    (case ce4 => (apply Eq.trans; k_is; rfl))
    (case co4 => (apply Eq.trans; k_is; rfl))
    (case cv4 => rfl)
    (case cf4 => decide +kernel)
    (case no4 => (intro f hf; (rcases List.mem_cons.mp hf with rfl | hf; k_is); (rcases List.mem_cons.mp hf with rfl | hf; k_is); exact nomatch hf))
    (case su4 => ks_is)
    (case aC5 => k_is)
    (case xC5 => (apply Eq.trans; k_is; rfl))
    (case sa5 => k_is)
    (case ga5 => k_is)
    (case gg5 => k_is)
    (case exC5 => k_is)
    (case tyC5 => k_is)
    (case kC5 => k_is)
    (case hdC5 => k_is)
    (case cl5 => k_is)
    (case st5 => k_is)
    (case iC5 => k_is)
    (case lk5 => (apply Eq.trans; k_is; rfl))
    (case tI5 => k_is)
    (case cd5 => k_is)
    (case ce5 => (apply Eq.trans; k_is; rfl))
    (case co5 => (apply Eq.trans; k_is; rfl))
    (case cv5 => rfl)
    (case cf5 => decide +kernel)
    (case no5 => (intro f hf; (rcases List.mem_cons.mp hf with rfl | hf; k_is); (rcases List.mem_cons.mp hf with rfl | hf; k_is); exact nomatch hf))
    (case su5 => ks_is)
    (case aC6 => k_is)
    (case xC6 => (apply Eq.trans; k_is; rfl))
    (case sa6 => k_is)
    (case ga6 => k_is)
    (case gg6 => k_is)
    (case exC6 => k_is)
    (case tyC6 => k_is)
    (case kC6 => k_is)
    (case hdC6 => k_is)
    (case cl6 => k_is)
    (case st6 => k_is)
    (case iC6 => k_is)
    (case lk6 => (apply Eq.trans; k_is; rfl))
    (case tI6 => k_is)
    (case cd6 => k_is)
    (case ce6 => (apply Eq.trans; k_is; rfl))
    (case co6 => (apply Eq.trans; k_is; rfl))
    (case cv6 => rfl)
    (case cf6 => decide +kernel)
    (case no6 => (intro f hf; (rcases List.mem_cons.mp hf with rfl | hf; k_is); (rcases List.mem_cons.mp hf with rfl | hf; k_is); exact nomatch hf))
    (case su6 => ks_is)
    (case aC7 => k_is)
    (case xC7 => (apply Eq.trans; k_is; rfl))
    (case sa7 => k_is)
    (case ga7 => k_is)
    (case gg7 => k_is)
    (case exC7 => k_is)
    (case tyC7 => k_is)
    (case kC7 => k_is)
    (case hdC7 => k_is)
    (case cl7 => k_is)
    (case st7 => k_is)
    (case iC7 => k_is)
    (case lk7 => (apply Eq.trans; k_is; rfl))
    (case tI7 => k_is)
    (case cd7 => k_is)
    (case ce7 => (apply Eq.trans; k_is; rfl))
    (case co7 => (apply Eq.trans; k_is; rfl))
    (case cv7 => rfl)
    (case cf7 => decide +kernel)
    (case no7 => (intro f hf; (rcases List.mem_cons.mp hf with rfl | hf; k_is); (rcases List.mem_cons.mp hf with rfl | hf; k_is); exact nomatch hf))
    (case su7 => ks_is)
    (case aC8 => k_is)
    (case xC8 => (apply Eq.trans; k_is; rfl))
    (case sa8 => k_is)
    (case ga8 => k_is)
    (case gg8 => k_is)
    (case exC8 => k_is)
    (case tyC8 => k_is)
    (case kC8 => k_is)
    (case hdC8 => k_is)
    (case cl8 => k_is)
    (case st8 => k_is)
    (case iC8 => k_is)
    (case lk8 => (apply Eq.trans; k_is; rfl))
    (case tI8 => k_is)
    (case cd8 => k_is)
    (case ce8 => (apply Eq.trans; k_is; rfl))
    (case co8 => (apply Eq.trans; k_is; rfl))
    (case cv8 => rfl)
    (case cf8 => decide +kernel)
    (case no8 => (intro f hf; (rcases List.mem_cons.mp hf with rfl | hf; k_is); (rcases List.mem_cons.mp hf with rfl | hf; k_is); exact nomatch hf))
    (case su8 => ks_is)
    (case aC9 => k_is)
    (case xC9 => (apply Eq.trans; k_is; rfl))
    (case sa9 => k_is)
    (case ga9 => k_is)
    (case gg9 => k_is)
    (case exC9 => k_is)
    (case tyC9 => k_is)
    (case kC9 => k_is)
    (case hdC9 => k_is)
    (case cl9 => k_is)
    (case st9 => k_is)
    (case iC9 => k_is)
    (case lk9 => (apply Eq.trans; k_is; rfl))
    (case tI9 => k_is)
    (case cd9 => k_is)
    (case ce9 => (apply Eq.trans; k_is; rfl))
    (case co9 => (apply Eq.trans; k_is; rfl))
    (case cv9 => rfl)
    (case cf9 => decide +kernel)
    (case no9 => (intro f hf; (rcases List.mem_cons.mp hf with rfl | hf; k_is); (rcases List.mem_cons.mp hf with rfl | hf; k_is); exact nomatch hf))
    (case su9 => ks_is)
    (case aC10 => k_is)
    (case xC10 => (apply Eq.trans; k_is; rfl))
    (case sa10 => k_is)
    (case ga10 => k_is)
    (case gg10 => k_is)
    (case exC10 => k_is)
    (case tyC10 => k_is)
    (case kC10 => k_is)
    (case hdC10 => k_is)
    (case cl10 => k_is)
    (case st10 => k_is)
    (case iC10 => k_is)
    (case lk10 => (apply Eq.trans; k_is; rfl))
    (case tI10 => k_is)
    (case cd10 => k_is)
    (case ce10 => (apply Eq.trans; k_is; rfl))
    (case co10 => (apply Eq.trans; k_is; rfl))
    (case cv10 => rfl)
    (case cf10 => decide +kernel)
    (case no10 => (intro f hf; (rcases List.mem_cons.mp hf with rfl | hf; k_is); (rcases List.mem_cons.mp hf with rfl | hf; k_is); exact nomatch hf))
    (case su10 => ks_is)
    (case aC11 => k_is)
    (case xC11 => (apply Eq.trans; k_is; rfl))
    (case sa11 => k_is)
    (case ga11 => k_is)
    (case gg11 => k_is)
    (case exC11 => k_is)
    (case tyC11 => k_is)
    (case kC11 => k_is)
    (case hdC11 => k_is)
    (case cl11 => k_is)
    (case st11 => k_is)
    (case iC11 => k_is)
    (case lk11 => (apply Eq.trans; k_is; rfl))
    (case tI11 => k_is)
    (case cd11 => k_is)
    (case ce11 => (apply Eq.trans; k_is; rfl))
    (case co11 => (apply Eq.trans; k_is; rfl))
    (case cv11 => rfl)
    (case cf11 => decide +kernel)
    (case no11 => (intro f hf; (rcases List.mem_cons.mp hf with rfl | hf; k_is); (rcases List.mem_cons.mp hf with rfl | hf; k_is); exact nomatch hf))
    (case su11 => ks_is)
    (case aC12 => k_is)
    (case xC12 => (apply Eq.trans; k_is; rfl))
    (case sa12 => k_is)
    (case ga12 => k_is)
    (case gg12 => k_is)
    (case exC12 => k_is)
    (case tyC12 => k_is)
    (case kC12 => k_is)
    (case hdC12 => k_is)
    (case cl12 => k_is)
    (case st12 => k_is)
    (case iC12 => k_is)
    (case lk12 => (apply Eq.trans; k_is; rfl))
    (case tI12 => k_is)
    (case cd12 => k_is)
    (case ce12 => (apply Eq.trans; k_is; rfl))
    (case co12 => (apply Eq.trans; k_is; rfl))
    (case cv12 => rfl)
    (case cf12 => decide +kernel)
    (case no12 => (intro f hf; (rcases List.mem_cons.mp hf with rfl | hf; k_is); (rcases List.mem_cons.mp hf with rfl | hf; k_is); exact nomatch hf))
    (case su12 => ks_is)
    (case aC13 => k_is)
    (case xC13 => (apply Eq.trans; k_is; rfl))
    (case sa13 => k_is)
    (case ga13 => k_is)
    (case gg13 => k_is)
    (case exC13 => k_is)
    (case tyC13 => k_is)
    (case kC13 => k_is)
    (case hdC13 => k_is)
    (case cl13 => k_is)
    (case st13 => k_is)
    (case iC13 => k_is)
    (case lk13 => (apply Eq.trans; k_is; rfl))
    (case tI13 => k_is)
    (case cd13 => k_is)
    (case ce13 => (apply Eq.trans; k_is; rfl))
    (case co13 => (apply Eq.trans; k_is; rfl))
    (case cv13 => rfl)
    (case cf13 => decide +kernel)
    (case no13 => (intro f hf; (rcases List.mem_cons.mp hf with rfl | hf; k_is); (rcases List.mem_cons.mp hf with rfl | hf; k_is); exact nomatch hf))
    (case su13 => ks_is)
    (case aC14 => k_is)
    (case xC14 => (apply Eq.trans; k_is; rfl))
    (case sa14 => k_is)
    (case ga14 => k_is)
    (case gg14 => k_is)
    (case exC14 => k_is)
    (case tyC14 => k_is)
    (case kC14 => k_is)
    (case hdC14 => k_is)
    (case cl14 => k_is)
    (case st14 => k_is)
    (case iC14 => k_is)
    (case lk14 => (apply Eq.trans; k_is; rfl))
    (case tI14 => k_is)
    (case cd14 => k_is)
    (case ce14 => (apply Eq.trans; k_is; rfl))
    (case co14 => (apply Eq.trans; k_is; rfl))
    (case cv14 => rfl)
    (case cf14 => decide +kernel)
    (case no14 => (intro f hf; (rcases List.mem_cons.mp hf with rfl | hf; k_is); (rcases List.mem_cons.mp hf with rfl | hf; k_is); exact nomatch hf))
    (case su14 => ks_is)
    (case aC15 => k_is)
    (case xC15 => (apply Eq.trans; k_is; rfl))
    (case sa15 => k_is)
    (case ga15 => k_is)
    (case gg15 => k_is)
    (case exC15 => k_is)
    (case tyC15 => k_is)
    (case kC15 => k_is)
    (case hdC15 => k_is)
    (case cl15 => k_is)
    (case st15 => k_is)
    (case iC15 => k_is)
    (case lk15 => (apply Eq.trans; k_is; rfl))
    (case tI15 => k_is)
    (case cd15 => k_is)
    (case ce15 => (apply Eq.trans; k_is; rfl))
    (case co15 => (apply Eq.trans; k_is; rfl))
    (case cv15 => rfl)
    (case cf15 => decide +kernel)
    (case no15 => (intro f hf; (rcases List.mem_cons.mp hf with rfl | hf; k_is); (rcases List.mem_cons.mp hf with rfl | hf; k_is); exact nomatch hf))
    (case su15 => ks_is)
    (case aC16 => k_is)
    (case xC16 => (apply Eq.trans; k_is; rfl))
    (case sa16 => k_is)
    (case ga16 => k_is)
    (case gg16 => k_is)
    (case exC16 => k_is)
    (case tyC16 => k_is)
    (case kC16 => k_is)
    (case hdC16 => k_is)
    (case cl16 => k_is)
    (case st16 => k_is)
    (case iC16 => k_is)
    (case lk16 => (apply Eq.trans; k_is; rfl))
    (case tI16 => k_is)
    (case cd16 => k_is)
    (case ce16 => (apply Eq.trans; k_is; rfl))
    (case co16 => (apply Eq.trans; k_is; rfl))
    (case cv16 => rfl)
    (case cf16 => decide +kernel)
    (case no16 => (intro f hf; (rcases List.mem_cons.mp hf with rfl | hf; k_is); (rcases List.mem_cons.mp hf with rfl | hf; k_is); exact nomatch hf))
    (case su16 => ks_is)
    (case aC17 => k_is)
    (case xC17 => (apply Eq.trans; k_is; rfl))
    (case sa17 => k_is)
    (case ga17 => k_is)
    (case gg17 => k_is)
    (case exC17 => k_is)
    (case tyC17 => k_is)
    (case kC17 => k_is)
    (case hdC17 => k_is)
    (case cl17 => k_is)
    (case st17 => k_is)
    (case iC17 => k_is)
    (case lk17 => (apply Eq.trans; k_is; rfl))
    (case tI17 => k_is)
    (case cd17 => k_is)
    (case ce17 => (apply Eq.trans; k_is; rfl))
    (case co17 => (apply Eq.trans; k_is; rfl))
    (case cv17 => rfl)
    (case cf17 => decide +kernel)
    (case no17 => (intro f hf; (rcases List.mem_cons.mp hf with rfl | hf; k_is); (rcases List.mem_cons.mp hf with rfl | hf; k_is); (rcases List.mem_cons.mp hf with rfl | hf; k_is); exact nomatch hf))
    (case su17 => ks_is)
    (case aC18 => k_is)
    (case xC18 => (apply Eq.trans; k_is; rfl))
    (case sa18 => k_is)
    (case ga18 => k_is)
    (case gg18 => k_is)
    (case exC18 => k_is)
    (case tyC18 => k_is)
    (case kC18 => k_is)
    (case hdC18 => k_is)
    (case cl18 => k_is)
    (case st18 => k_is)
    (case iC18 => k_is)
    (case lk18 => (apply Eq.trans; k_is; rfl))
    (case tI18 => k_is)
    (case cd18 => k_is)
    (case ce18 => (apply Eq.trans; k_is; rfl))
    (case co18 => (apply Eq.trans; k_is; rfl))
    (case cv18 => rfl)
    (case cf18 => decide +kernel)
    (case no18 => (intro f hf; (rcases List.mem_cons.mp hf with rfl | hf; k_is); (rcases List.mem_cons.mp hf with rfl | hf; k_is); (rcases List.mem_cons.mp hf with rfl | hf; k_is); exact nomatch hf))
    (case su18 => ks_is)
    (case aC19 => k_is)
    (case xC19 => (apply Eq.trans; k_is; rfl))
    (case sa19 => k_is)
    (case ga19 => k_is)
    (case gg19 => k_is)
    (case exC19 => k_is)
    (case tyC19 => k_is)
    (case kC19 => k_is)
    (case hdC19 => k_is)
    (case cl19 => k_is)
    (case st19 => k_is)
    (case iC19 => k_is)
    (case lk19 => (apply Eq.trans; k_is; rfl))
    (case tI19 => k_is)
    (case cd19 => k_is)
    (case ce19 => (apply Eq.trans; k_is; rfl))
    (case co19 => (apply Eq.trans; k_is; rfl))
    (case cv19 => rfl)
    (case cf19 => decide +kernel)
    (case no19 => (intro f hf; (rcases List.mem_cons.mp hf with rfl | hf; k_is); (rcases List.mem_cons.mp hf with rfl | hf; k_is); exact nomatch hf))
    (case su19 => ks_is)
    (case aC20 => k_is)
    (case xC20 => (apply Eq.trans; k_is; rfl))
    (case sa20 => k_is)
    (case ga20 => k_is)
    (case gg20 => k_is)
    (case exC20 => k_is)
    (case tyC20 => k_is)
    (case kC20 => k_is)
    (case hdC20 => k_is)
    (case cl20 => k_is)
    (case st20 => k_is)
    (case iC20 => k_is)
    (case lk20 => (apply Eq.trans; k_is; rfl))
    (case tI20 => k_is)
    (case cd20 => k_is)
    (case ce20 => (apply Eq.trans; k_is; rfl))
    (case co20 => (apply Eq.trans; k_is; rfl))
    (case cv20 => rfl)
    (case cf20 => decide +kernel)
    (case no20 => (intro f hf; (rcases List.mem_cons.mp hf with rfl | hf; k_is); (rcases List.mem_cons.mp hf with rfl | hf; k_is); exact nomatch hf))
    (case su20 => ks_is)
    (case nd => decide)

