import PyProof.Rows.All
import Wide.All
import OpenK.AllK
import Wide.FinOn
import HandS.ForMost
import HandS.Wide
import HandS.IsInst
import HandS.Codes
import HandS.Walk
import KE.KSuper
import HandS.More
import HandS.Exc
import HandS.ExcInit
import HandS.Star
import HandS.ClsMeth
import HandS.Nested
import KE.KExcIs
import KE.KExcStr
import PyProof.ReprRoads
import HandS.ExcValue
import HandS.ExcField
import KE.KDictZip
import KE.GoesEnum
import HandS.DictComp
import HandS.WordsExc
import HandS.ExcOwn
import HandS.TryMany
import HandS.Lambda
import HandS.EndTab
import HandS.Ends
import PySem.Challenge.RW_planfirst_k25_whole_stores_and_locks
set_option Elab.async false
set_option linter.all false
set_option maxRecDepth 100000
set_option maxHeartbeats 4000000
namespace Pf
open PySem L2
def top (i : Nat) : Stmt := PySem.Challenge.pw_planfirst_k25_whole_stores_and_locks.main.body.getD i (.Pass ⟨0, 0, 0, 0⟩)
abbrev sWell : Stmt := top 17
abbrev sDraw : Stmt := top 18
abbrev sOne : Stmt := top 19
/-- a well stands at a: three whole numbers, drawn z times -/
def WellAt (H : Hp) (a : Addr) (z : Int) : Prop := ∃ x y : Int, H a = some (.lst [.int x, .int y, .int z])
/-- all that was tracked, but at a, is as it was -/
def But (a : Addr) (H H' : Hp) : Prop := ∀ b o, H b = some o → b ≠ a → H' b = some o
theorem But.upd {H : Hp} {a : Addr} {o : HO} : But a H (upd H a o) := fun b u e hb => (upd_ne hb).trans e
structure TxtN (mg : Str → Option Value) : Prop where
  int : mg "int" = none
  len : mg "len" = none
def spWell : Sp := fun vs H Q _ => ∃ (c : Int), vs = [.int c] ∧ ∀ (p : Addr) (o : HO), H p = none → WellAt (upd H p o) p 0 → Q (.ref p) (upd H p o)
def spDraw : Sp := fun vs H Q _ => ∃ (a : Addr) (n z : Int), vs = [.ref a, .int n] ∧ WellAt H a z ∧ 0 < n ∧ n < 1000000 ∧ 0 ≤ z ∧ z < 1000000 ∧
  ∀ (d z' : Int) (H' : Hp), 0 ≤ d → d < n → z ≤ z' → z' ≤ z + 1 → WellAt H' a z' → But a H H' → Q (.int d) H'
def spOne (K : PySem.W.Frag) : Sp := fun vs H Q _ => ∃ (a l : Addr) (z : Int) (xs : List V), vs = [.ref a, .ref l] ∧ WellAt H a z ∧ H l = some (.lst xs) ∧ l ≠ a ∧ 0 < xs.length ∧ xs.length < 1000000 ∧ 0 ≤ z ∧ z < 1000000 ∧
  ∀ (v : V) (z' : Int) (H' : Hp), v ∈ xs → z ≤ z' → z' ≤ z + 1 → WellAt H' a z' → But a H H' → Q v H'
theorem iteC {c : Bool} {A B : Prop} (e : c = true) (h : A) : if c = true then A else B := by rw [if_pos e]; exact h
theorem iteN {c : Bool} {A B : Prop} (e : c = false) (h : B) : if c = true then A else B := by rw [if_neg (by rw [e]; exact Bool.false_ne_true)]; exact h
section
variable {P : Program} {w : World} {K : PySem.W.Frag} {mg : Str → Option Value} {base : Heap}
theorem scWell : FnScope ["_law_cell"] ["_law_cell"] (defScope sWell) := ⟨rfl, rfl, rfl, by decide +kernel, rfl, by decide +kernel, by decide +kernel⟩
theorem scDraw : FnScope ["_law_well_here", "_law_often", "_law_found", "_law_mixed"] ["_law_well_here", "_law_often"] (defScope sDraw) := ⟨rfl, rfl, rfl, by decide +kernel, rfl, by decide +kernel, by decide +kernel⟩
theorem scOne : FnScope ["_law_well_here", "_law_some"] ["_law_well_here", "_law_some"] (defScope sOne) := ⟨rfl, rfl, rfl, by decide +kernel, rfl, by decide +kernel, by decide +kernel⟩
theorem ok_well {f : Addr} {fd : FuncData} (F : Fun K "_law_well" "_law_well" sWell f fd) (T : TxtN mg) : FnOk P w K mg base CX0 1 f fd ["_law_cell"] spWell := by
  refine F.ok scWell (fun vs H Q E h => ?_) (fun cdv A outer s H vs Q E hr h => ?_)
  · obtain ⟨c, rfl, _⟩ := h
    rfl
  · obtain ⟨c, rfl, k⟩ := h
    refine ⟨_, pss_one (ps_ret (pe_lst (pa_cons (pe_ifExp (pt_cmpR op_ge (pv 0) (pe_op op_pow pe_int pe_int) (nomark _)) (pv 0) pe_int) (pa_cons (pv 0) (pa_cons pe_int pa_nil))))), ?_⟩
    refine ⟨_, rfl, _, _, rfl, rfl, ⟨by decide, by decide, by decide⟩, _, _, rfl, rfl, _, rfl, ite2 (fun _ => ?_) fun _ => ?_⟩
    · refine ⟨_, rfl, _, rfl, by show 3 ≤ sizeLine; decide, fun p hp => ?_⟩
      exact k p _ hp ⟨_, _, upd_same⟩
    · refine ⟨_, rfl, by show 3 ≤ sizeLine; decide, fun p hp => ?_⟩
      exact k p _ hp ⟨_, _, upd_same⟩
theorem ok_draw {f : Addr} {fd : FuncData} (F : Fun K "_law_draw" "_law_draw" sDraw f fd) (T : TxtN mg) : FnOk P w K mg base CX0 1 f fd ["_law_well_here", "_law_often"] spDraw := by
  refine F.ok scDraw (fun vs H Q E h => ?_) (fun cdv A outer s H vs Q E hr h => ?_)
  · obtain ⟨a, n, z, rfl, _⟩ := h
    rfl
  · obtain ⟨a, n, z, rfl, ⟨x, y, ha⟩, hn0, hn1, hz0, hz1, k⟩ := h
    refine ⟨_, pss_cons (ps_if (pt_cmpR op_gt (pe_ix ix_list (pv 0) pe_int (fun _ _ => rfl)) pe_int (nomark _))
        (pss_cons (ps_set (i := 2) scDraw.nd rfl (Or.inl rfl) (pe_op op_mod (pe_callTy call_int1 (by rfl) T.int (by decide +kernel) (pa_cons (pe_ix ix_list (pv 0) pe_int (fun _ _ => rfl)) pa_nil)) (pv 1)))
        (pss_cons (ps_asg (pe_op op_fdivW (pe_ix ix_list (pv 0) pe_int (fun _ _ => rfl)) (pv 1)) (pg_sub (pv 0) pe_int set_list))
        (pss_one (ps_ret (pv 2)))))
        pss_nil)
      (pss_cons (ps_asg (pe_op op_add (pe_ix ix_list (pv 0) pe_int (fun _ _ => rfl)) pe_int) (pg_sub (pv 0) pe_int set_list))
      (pss_cons (ps_set (i := 3) scDraw.nd rfl (Or.inl rfl) (pe_op op_mod (pe_callTy call_int1 (by rfl) T.int (by decide +kernel) (pa_cons
          (pe_op op_add (pe_op op_add (pe_op op_mul (pe_ix ix_list (pv 0) pe_int (fun _ _ => rfl)) pe_int) (pe_op op_mul (pe_ix ix_list (pv 0) pe_int (fun _ _ => rfl)) pe_int)) pe_int) pa_nil)) pe_int))
      (pss_cons (ps_set (i := 3) scDraw.nd rfl (Or.inl rfl) (pe_op op_mod (pe_callTy call_int1 (by rfl) T.int (by decide +kernel) (pa_cons (pe_op op_mul (pv 3) (pe_op op_add (pe_op op_fdiv (pv 3) pe_int) pe_int)) pa_nil)) pe_int))
      (pss_cons (ps_set (i := 3) scDraw.nd rfl (Or.inl rfl) (pe_op op_mod (pe_callTy call_int1 (by rfl) T.int (by decide +kernel) (pa_cons (pe_op op_mul (pv 3) (pe_op op_add (pe_op op_fdiv (pv 3) pe_int) pe_int)) pa_nil)) pe_int))
      (pss_one (ps_ret (pe_op op_mod (pe_callTy call_int1 (by rfl) T.int (by decide +kernel) (pa_cons (pe_op op_fdiv (pv 3) pe_int) pa_nil)) (pv 1)))))))), ?_⟩
    refine ⟨_, rfl, a, _, _, _, rfl, rfl, SqL.of ha, atI_nat (j := 0) rfl, _, _, rfl, rfl, _, rfl, ?_⟩
    refine ite2 (fun hx => ?_) fun hx => ?_
    · refine ⟨_, rfl, a, _, _, _, rfl, rfl, SqL.of ha, atI_nat (j := 0) rfl, .inl ⟨_, rfl, _, rfl, _, _, rfl, rfl, hn0, ?_⟩⟩
      refine ⟨_, rfl, a, _, _, _, rfl, rfl, SqL.of ha, atI_nat (j := 0) rfl, _, rfl, _, _, rfl, rfl, wide_div hn0 (b := 20) (by omega) (by decide) (by decide), ?_⟩
      refine ⟨_, rfl, a, _, _, _, rfl, rfl, ha, rfl, ?_⟩
      refine ⟨_, rfl, ?_⟩
      exact k _ z _ (Int.emod_nonneg _ (by omega)) (Int.emod_lt_of_pos _ hn0) (by omega) (by omega) ⟨x / n, y, upd_same⟩ But.upd
    · refine ⟨_, rfl, a, _, _, _, rfl, rfl, SqL.of ha, atI_nat (j := 2) rfl, _, _, rfl, rfl, ?_⟩
      refine ⟨_, rfl, a, _, _, _, rfl, rfl, ha, rfl, ?_⟩
      have hb : upd H a (.lst [.int x, .int y, .int (z + 1)]) a = some (.lst [.int x, .int y, .int (z + 1)]) := upd_same
      refine ⟨_, rfl, a, _, _, _, rfl, rfl, SqL.of hb, atI_nat (j := 1) rfl, _, _, rfl, rfl, .inr ⟨by decide, by decide⟩, _, rfl, a, _, _, _, rfl, rfl, SqL.of hb, atI_nat (j := 2) rfl, _, _, rfl, rfl, .inr ⟨by decide, by decide⟩, _, _, rfl, rfl, _, _, rfl, rfl, .inl ⟨_, rfl, _, _, rfl, rfl, (by show (0 : Int) < 2147483647; decide), ?_⟩⟩
      generalize hq : (y * 69073 + (z + 1) * 1000033 + 24691) % 2147483647 = q
      have q0 : 0 ≤ q := by rw [← hq]; exact Int.emod_nonneg _ (by decide)
      have q1 : q < 2147483647 := by rw [← hq]; exact Int.emod_lt_of_pos _ (by decide)
      refine ⟨_, rfl, _, rfl, _, _, rfl, rfl, ⟨by decide, by decide⟩, _, _, rfl, rfl, ?_⟩
      refine ⟨_, _, rfl, rfl, .inl ⟨by omega, by omega⟩, .inl ⟨_, rfl, _, _, rfl, rfl, (by show (0 : Int) < 2147483629; decide), ?_⟩⟩
      generalize hq2 : (q * (q / 1019 + 40529)) % 2147483629 = r
      have r0 : 0 ≤ r := by rw [← hq2]; exact Int.emod_nonneg _ (by decide)
      have r1 : r < 2147483629 := by rw [← hq2]; exact Int.emod_lt_of_pos _ (by decide)
      refine ⟨_, rfl, _, rfl, _, _, rfl, rfl, ⟨by decide, by decide⟩, _, _, rfl, rfl, ?_⟩
      refine ⟨_, _, rfl, rfl, .inl ⟨by omega, by omega⟩, .inl ⟨_, rfl, _, _, rfl, rfl, (by show (0 : Int) < 2147483587; decide), ?_⟩⟩
      refine ⟨_, rfl, _, _, rfl, rfl, ⟨by decide, by decide⟩, .inl ⟨_, rfl, _, rfl, _, _, rfl, rfl, hn0, ?_⟩⟩
      exact k _ (z + 1) _ (Int.emod_nonneg _ (by omega)) (Int.emod_lt_of_pos _ hn0) (by omega) (by omega) ⟨x, y, hb⟩ But.upd
theorem ok_one {f fD : Addr} {fd fdD : FuncData} (F : Fun K "_law_one" "_law_one" sOne f fd) (T : TxtN mg) (FD : Fun K "_law_draw" "_law_draw" sDraw fD fdD) (bD : Binds K fdD ["_law_well_here", "_law_often"] []) (gD : mg "_law_draw" = some (.ref fD)) :
    FnOk P w K mg base CX0 2 f fd ["_law_well_here", "_law_some"] (spOne K) := by
  have GD : FnOk P w K mg base CX0 1 fD fdD ["_law_well_here", "_law_often"] spDraw := ok_draw FD T
  refine F.ok scOne (fun vs H Q E h => ?_) (fun cdv A outer s H vs Q E hr h => ?_)
  · obtain ⟨a, l, z, xs, rfl, _⟩ := h
    rfl
  · obtain ⟨a, l, z, xs, rfl, ha, hl, hal, hx0, hx1, hz0, hz1, k⟩ := h
    refine ⟨_, pss_one (ps_ret (pe_ix ix_list (pv 1) (pe_call GD hr rfl gD FD.kp bD .nil pass0 (pa_cons (pv 0) (pa_cons (pe_callB call_len_seq (by rfl) T.len PySem.boot_len (pa_cons (pv 1) pa_nil)) pa_nil))) (fun _ _ => rfl))), ?_⟩
    refine ⟨_, rfl, _, rfl, _, rfl, l, _, rfl, .inl (SqL.of hl), a, _, z, rfl, ha, by omega, by omega, hz0, hz1, fun d z' H' hd0 hd1 hz2 hz3 hw hk => ?_⟩
    obtain ⟨j, ej⟩ : ∃ j : Nat, d = (j : Int) := ⟨d.toNat, by omega⟩
    have hj : j < xs.length := by omega
    exact ⟨l, xs, _, xs[j], rfl, rfl, SqL.of (hk _ _ hl hal), at_of ej (List.getElem?_eq_getElem hj), k _ z' _ (List.getElem_mem hj) hz2 hz3 hw hk⟩
end
end Pf

set_option Elab.async false
set_option linter.all false
set_option maxRecDepth 100000
set_option maxHeartbeats 4000000
/-! An exception of an own class as a tracked thing: its class, its own dict (or none as yet), the tuple of its arguments. -/
namespace Sup
open PySem PySem.Spec PyProof.Rows L2

/-- the very object: an exception of the class at C, own dict d, arguments at t -/
abbrev exnObj (C : Addr) (d : Option Addr) (t : Addr) : Obj := { cls := .ref C, dict := d, data := .fields #[.ref t, .none, .none, .none, .bool false, .none] }
def Exn (e C : Addr) (d : Option Addr) (t : Addr) : HO := .ext fun h => h.get? e = some (exnObj C d t)
theorem exn_is {e C t : Addr} {d : Option Addr} {u : HO} (h : ∀ φ, u ≠ .ext φ) : Exn e C d t ≠ u := fun z => h _ z.symm
theorem exn_ok {P : Program} {w : World} {H : Hp} {h : Heap} {e C t : Addr} {d : Option Addr} (he : h.get? e = some (exnObj C d t)) : ObjOk P w H h e (Exn e C d t) := ⟨he, ⟨_, he⟩, fun h1 h2 z k => k _ z⟩
theorem exn_at {P : Program} {w : World} {H : Hp} {h : Heap} {e C t : Addr} {d : Option Addr} (ok : HOk P w H h) (he : H e = some (Exn e C d t)) : h.get? e = some (exnObj C d t) := (show ObjOk P w H h e (.ext fun h => h.get? e = some (exnObj C d t)) from ok e _ he).1
/-- the class's record, taken apart once -/
theorem oex_cls {K : PySem.W.Frag} {C : Addr} (T : OexC K C) : ∃ cd : ClassData, PySem.W.clsIn K C = some cd ∧ PySem.HandSPX.refsVE cd.mro = true ∧ cd.hasDict = true ∧ ∃ bm, cd.mro = .ref C :: bm := by
  obtain ⟨nm, q, N, bs, bm, sn, sub, ab, col, dd, k0, k1, k2, k3, k5, hC, hbm⟩ := T.cls
  refine ⟨{ name := nm, bases := bs, mro := .ref C :: bm, ns := N, qualname := q, hasDict := true, slotNames := sn, subclasses := sub, abstract := ab, collection := col, hasDel := false }, ?_, hbm, rfl, bm, rfl⟩
  unfold PySem.W.clsIn
  rw [hC]

section
variable {X : Cx} {pins : List (Addr × Obj)} {σ : L2.St} {H : Hp} {s : Shared} {a C dx t : Addr} {f : Str} {y : V} {u : Value} {fs : List (Str × V)} {Q : Unit → Shared → Prop} {E : Value → Shared → Prop} {A : Around}
/-- the first attribute: the exception comes to have a dict -/
theorem est_new (T : OexC X.K C) (I : Inv X pins σ H s) (e : H a = some (Exn a C none t)) (hno : PySem.W.findIn X.K (.ref C) f = some none) (ry : RelV y u)
    (h : ∀ dx s', H dx = none → dx ≠ a → Inv X pins σ (upd (upd H dx (exd dx [(f, y)])) a (Exn a C (some dx) t)) s' → Q () s') : wpAny (model X.prog X.w) A (setAttr (.ref a) f u) Q E s := by
  obtain ⟨cd, hcl, hm, hdc, _⟩ := oex_cls T
  have ho := exn_at I.hok e
  obtain ⟨hp, g, d, tk, os⟩ := s
  refine PySem.W.set_plain I.kIn (ox := exnObj C none t) (od := none) ⟨ho, rfl, rfl, trivial⟩ T.sa (PySem.HandSPX.exc_osa I.kIn ho hcl hm hdc hno fun h' tk' x k big ne hx hn => ?_)
  have hnx : H x = none := I.hok.fresh big
  have old : ∀ {b : Addr} {o : HO}, H b = some o → b ≠ x := fun q => ne_of_none q hnx
  have oth : ∀ {b : Addr} {o : HO}, H b = some o → (∀ φ, o ≠ .ext φ) → b ≠ a := fun {b o} q nx z => by
    rw [z, e] at q
    exact exn_is nx (Option.some.inj q)
  have non : ∀ {b : Addr}, H b = none → b ≠ a := fun {b} n z => by
    rw [z, e] at n
    cases n
  have lt : ∀ {b : Addr} {o : Obj}, hp.get? b = some o → b ≠ x := fun q => Nat.ne_of_lt (Nat.lt_of_lt_of_le (Heap.lt_size q) big)
  refine h x _ hnx ne (I.un (t' := tk') ⟨fun b o q n _ _ => k b o (non n) q, fun b o q n _ _ => ⟨o.slots, k b o (non n) q⟩, fun b o q n _ => ?_, fun b o q _ => ?_, fun b xs q => ?_, fun b o v q => ?_, fun b ps q => ⟨#[], ?_⟩⟩ fun b o q => ?_)
  · rw [upd_ne (non n), upd_ne (lt q)]
    exact n
  · by_cases hb : b = a
    · exact ⟨_, by rw [hb]; exact hx⟩
    · exact ⟨o, k b o hb q⟩
  · rw [upd_ne (oth q fun _ z => nomatch z), upd_ne (old q)]
    exact q
  · rw [upd_ne (oth q fun _ z => nomatch z), upd_ne (old q)]
    exact q
  · rw [upd_ne (oth q fun _ z => nomatch z), upd_ne (old q), q]
    simp
  · by_cases hb : b = a
    · subst hb
      rw [upd_same] at q
      cases q
      exact exn_ok hx
    · rw [upd_ne hb] at q
      by_cases hd : b = x
      · subst hd
        rw [upd_same] at q
        cases q
        exact exd_ok hn (relO_put (fs := []) ry fun _ => True.intro)
      · rw [upd_ne hd] at q
        refine (I.hok b o q).stay (fun c v hc z => k c v ?_ z) (fun c hc => ?_) fun c xs hc => ?_
        · rcases hc with hc | hc
          · rw [hc]
            exact hb
          · exact oth hc fun _ z => nomatch z
        · rw [upd_ne (oth hc fun _ z => nomatch z), upd_ne (old hc)]
          exact hc
        · rw [upd_ne (oth hc fun _ z => nomatch z), upd_ne (old hc)]
          exact hc
/-- a further one -/
theorem est_old (T : OexC X.K C) (I : Inv X pins σ H s) (e : H a = some (Exn a C (some dx) t)) (ed : H dx = some (exd dx fs)) (hl : fs.length ≤ 900) (hno : PySem.W.findIn X.K (.ref C) f = some none) (ry : RelV y u)
    (h : ∀ s', Inv X pins σ (upd H dx (exd dx ((f, y) :: fs))) s' → Q () s') : wpAny (model X.prog X.w) A (setAttr (.ref a) f u) Q E s := by
  obtain ⟨cd, hcl, hm, hdc, _⟩ := oex_cls T
  have ho := exn_at I.hok e
  obtain ⟨mA, hns, rel⟩ := exd_at I.hok ed
  obtain ⟨hp, g, d, tk, os⟩ := s
  obtain ⟨oD, _, _, hoD, _, _⟩ := hns.count (within_of rel)
  refine PySem.W.set_plain I.kIn (ox := exnObj C (some dx) t) (od := some oD) ⟨ho, rfl, rfl, hoD⟩ T.sa ?_
  refine PySem.OEX.osa_old I.kIn ho hns (within_of rel) (by rw [List.length_map]; omega) hcl hm hdc hno fun h' tk' k hn => ?_
  obtain ⟨o, _, _, e', _⟩ := id hn
  exact h _ (I.write (t' := tk') (x := dx) (e := dx) (o := exd dx ((f, y) :: fs)) (by rw [ed]; exact True.intro) (.inl rfl) k ⟨o, e'⟩ (exd_ok hn (relO_put ry rel)))
end
/-- self.f = e, self an exception -/
def tEst (K : PySem.W.Frag) (f : Str) (to te : TE) : TS := fun D σ H => te σ H fun y H1 => to σ H1 fun x H2 => ∃ a C t : Addr, x = .ref a ∧ OexC K C ∧ PySem.W.findIn K (.ref C) f = some none ∧
  ((H2 a = some (Exn a C none t) ∧ ∀ dx, H2 dx = none → dx ≠ a → D.nx σ (upd (upd H2 dx (exd dx [(f, y)])) a (Exn a C (some dx) t))) ∨
    ∃ (dx : Addr) (fs : List (Str × V)), H2 a = some (Exn a C (some dx) t) ∧ H2 dx = some (exd dx fs) ∧ fs.length ≤ 900 ∧ D.nx σ (upd H2 dx (exd dx ((f, y) :: fs))))
section
variable {X : Cx} {o e : Expr} {es : List Expr} {to te : TE} {ta : TA} {f : Str} {p p' pos : Pos}
theorem ps_est (ho : PE X o to) (he : PE X e te) (hs : swapsWith e (some (.Attribute o f p')) pos.line X.env = pure false := by rfl) : PS X (.Assign [.Attribute o f p'] e pos) (tEst X.K f to te) := by
  refine ⟨fun pins s σ H D I h => plainObj_wpAny_Assign_Attribute (thn (he.run pins s σ H _ I h) fun v s1 ⟨y, H1, I1, r1, q1⟩ => thn (ho.run pins s1 σ H1 _ I1 q1) fun u s2 ⟨x, H2, I2, r2, a, C, t, ex, T, hno, q⟩ => ?_) hs⟩
  subst ex
  obtain rfl : u = Value.ref a := r2
  rcases q with ⟨ea, q⟩ | ⟨dx, fs, ea, ed, hl, q⟩
  · exact est_new T I2 ea hno r1 fun dx s' n ne J => ⟨σ, _, J, q dx n ne⟩
  · exact est_old T I2 ea ed hl hno r1 fun s' J => ⟨σ, _, J, q⟩

/-- C(e, ..) as a value: t the arguments' tuple, a the new exception, then C's own __init__ -/
def tExv (C : Addr) (sp : Sp) (ta : TA) : TE := fun σ H Q => ta σ H fun vs H1 => vs.length ≤ 1000 ∧ ∀ t a, H1 t = none → H1 a = none → a ≠ t →
  sp (.ref a :: vs) (upd (upd H1 t (.tup vs)) a (Exn a C none t)) (fun v H2 => v = .non ∧ Q (.ref a) H2) E0
theorem pe_exv {x : Str} {C fI : Addr} {k : Nat} {sp : Sp} (T : OexC X.K C) (iC : PySem.W.findIn X.K (.ref C) "__init__" = some (some (.ref fI))) (tI : PySem.W.typeIn X.K (.ref fI) = some (.type "function"))
    (F1 : FnR X.prog X.w X.K X.mg X.base CX0 k fI sp) (hr : Room (k + 1) X.A) (hg : Gl X x) (hm : X.mg x = some (.ref C)) (ha : PA X (e :: es) ta)
    (hdb : (x == ("__debug__" : Str)) = false := by decide) (he : starEach (e :: es) X.env = (false, eval e X.env) :: starEach es X.env := by rfl) (hpl : (backTo pos (starEach es X.env)).any (·.1) = false := by rfl) :
    PE X (.Call (.Name x p) (e :: es) [] pos) (tExv C sp ta) := by
  refine ⟨fun pins s σ H Q I h => wpAny_Call_Name_kw (ld_glob I hg hm (PySem.W.callWith_K (h₀ := X.base) I.ok.mod.kin T.kC (thn (ha.run pos pins s σ H _ I h) fun us s1 ⟨vs, H1, I1, r1, hz, q1⟩ => ⟨I1.kIn, ?_⟩) he hpl) hdb)⟩
  show wpAny _ _ (call (.ref C) us) _ _ _
  obtain ⟨nm, q, N, bs, bm, sn, sub, ab, col, dd, k0, k1, k2, k3, k5, hC, hbm⟩ := T.cls
  obtain ⟨hp, g, dr, tk, os⟩ := s1
  have n1 : H1 hp.objs.size = none := I1.hok.fresh (Nat.le_refl _)
  have n2 : H1 (hp.objs.size + 1) = none := I1.hok.fresh (Nat.le_succ _)
  have hus : us.length ≤ sizeLine := by
    rw [← Paired.length r1, sizeLine_eq]
    omega
  have up1 : ∀ b o, hp.get? b = some o → (hp.push (PySem.W.kdv_tup us)).get? b = some o := fun b o e => Heap.get?_push_of_some _ e
  have J1 : Inv X pins σ (upd H1 hp.objs.size (.tup vs)) ⟨hp.push (PySem.W.kdv_tup us), g, dr, tk, os⟩ :=
    I1.laid (t' := tk) up1 (Nat.le_refl _) ⟨by rw [Paired.length r1]; exact hus, us, r1, _, Heap.get?_push_size _ rfl, rfl, _, rfl⟩
  have sz : (hp.push (PySem.W.kdv_tup us)).objs.size = hp.objs.size + 1 := Heap.size_push _ _
  have J2 : Inv X pins σ (upd (upd H1 hp.objs.size (.tup vs)) (hp.objs.size + 1) (Exn (hp.objs.size + 1) C none hp.objs.size)) ⟨(hp.push (PySem.W.kdv_tup us)).push (PySem.HandSPX.excO C hp.objs.size), g, dr, tk, os⟩ :=
    J1.laid (t' := tk) (fun b o e => Heap.get?_push_of_some _ e) (Nat.le_of_eq sz) (exn_ok (by rw [← sz]; exact Heap.get?_push_size _ rfl))
  have hq := q1 hp.objs.size (hp.objs.size + 1) n1 n2 (Nat.succ_ne_self _)
  refine wpAny_call (PySem.HandSPX.call_own F.excBase_ValueError (fun Y => PySem.HandSPX.refsVE_contains Y bm hbm) (I1.kIn _ _ hC) (PySem.W.looks_findIn I1.kIn iC) (fun self => PySem.W.bind_fn I1.kIn self tI) hus
    (codeAny_mono (F1 _ X.stack _ _ (Value.ref (hp.objs.size + 1) :: us) _ _ E0 (hr.make C us []) (J2.env0.make C us []) (.cons (show RelV (V.ref (hp.objs.size + 1)) _ from rfl) r1) hq) fun r s' hq' => ?_))
  cases r with
  | error er => exact False.elim hq'
  | ok fl =>
    cases fl with
    | ret v =>
      obtain ⟨y, H3, J3, ry, ev, q3⟩ := J2.after hq'
      subst ev
      exact ⟨ry, ⟨V.ref (hp.objs.size + 1), H3, J3, rfl, q3⟩⟩
    | next => exact False.elim hq'
    | brk => exact False.elim hq'
    | cont => exact False.elim hq'
end
end Sup

set_option Elab.async false
set_option linter.all false
set_option maxRecDepth 100000
set_option maxHeartbeats 4000000
namespace Sup
open PySem PySem.Spec PyProof.Rows L2 ClX

/-- what the written part says of a class C whose __init__ (at fI) calls its base's (at f0); cc: the cell that holds C; cda: its code -/
structure SupT (prog : Program) (K : PySem.W.Frag) (C fI f0 cc cda : Addr) : Prop where
  oex : OexC K C
  cell : ∃ ccl ccd csl, K.lookup cc = some ⟨ccl, ccd, .cell (some (.ref C)), csl⟩
  code : ∃ cl cd vs sl file tf, K.lookup cda = some ⟨cl, cd, .fields vs, sl⟩ ∧ vs[2]? = some (.str file tf) ∧ ((prog.main.file : Str) == file) = true
  sup : PySem.W.ks_superIn K C C "__init__" = some (some (.ref f0))
  ty : PySem.W.typeIn K (.ref f0) = some (.type "function")
  fn : PySem.W.fnIn K f0 = true
  st : PySem.W.nsIn K cStatics "thirdparty.any" = some none
  top : (prog.main.scope.names.lookup ("super" : Str)).isSome = false

section
variable {X : Cx} {pins : List (Addr × Obj)} {σ : L2.St} {H : Hp} {s : Shared} {a C fI f0 cc cda t0 : Addr} {body : List Stmt} {e : Expr} {es : List Expr} {ta : TA} {p0 p1 apos pos pos2 : Pos} {CX : CXT} {k : Nat} {sp : Sp} {E : XK}
  {fd : FuncData} {ar : Arg} {i : Nat} {oc : Value} {od : Option Addr} {osl : Array (Option Value)} {Q : Hp → Prop} {pl : Sem Bool}

theorem sup_stmt (T : SupT X.prog X.K C fI f0 cc cda) (I : Inv X pins σ H s) (hms : X.mg "super" = none)
    (hks : X.env.kindOf "super" = some .globalImplicit) (hkc : X.env.kindOf "__class__" = some .free) (hcc : X.env.cells.lookup ("__class__" : Str) = some cc) (hfu : X.env.func = some fI) (hco : X.env.code = .ref cda)
    (hfI : X.K.lookup fI = some ⟨oc, od, .func fd, osl⟩) (hpar : (fd.params.posonlyargs ++ fd.params.args).head? = some ar) (hi : X.N[i]? = some ar.arg) (hσ : σ[i]? = some (some (.ref a))) (hka : X.env.kindOf ar.arg = some .local)
    (ea : H a = some (Exn a C none t0)) (F0 : FnR X.prog X.w X.K X.mg X.base CX k f0 sp) (hr : Room k X.A) (hx : Passes CX X E) (ha : PA X (e :: es) ta)
    (h : ta σ H fun vs H1 => sp (.ref a :: vs) H1 (fun v H2 => Q H2) E)
    (he : starEach (e :: es) X.env = (false, eval e X.env) :: starEach es X.env := by rfl) (hpl : (backTo pos (starEach es X.env)).any (·.1) = false := by rfl)
    (hin : interactive X.env = false := by rfl) (hsw : swapsWith (.Call (.Attribute (.Call (.Name "super" p0) [] [] p1) "__init__" apos) (e :: es) [] pos) none pos2.line X.env = pure false := by rfl)
    (hev : eval (.Call (.Attribute (.Call (.Name "super" p0) [] [] p1) "__init__" apos) (e :: es) [] pos) X.env = (do
      let ov ← attributeBase (.Call (.Name "super" p0) [] [] p1) "__init__" X.env (eval (.Call (.Name "super" p0) [] [] p1) X.env)
      standAt apos.atName
      let (f, first) ← holding [ov] (getMethod ov "__init__" pl)
      callWith pos f first (backTo pos (starEach (e :: es) X.env)) []) := by rfl) :
    _root_.PySem.wpAt (model X.prog X.w) X.A (.func body X.env) (exec (.Expr (.Call (.Attribute (.Call (.Name "super" p0) [] [] p1) "__init__" apos) (e :: es) [] pos) pos2) X.env)
      (fun fl s' => fl = .next ∧ ∃ H', Inv X pins σ H' s' ∧ Q H') X.xe s := by
  obtain ⟨cl, cd, vs, sl, file, tf, hcode, hvs, hfile⟩ := T.code
  obtain ⟨ccl, ccd, csl, hcell⟩ := T.cell
  obtain ⟨nm, q, N, bs, bm, sn, sub, ab, col, dd, k0, k1, k2, k3, k5, hC, hbm⟩ := T.oex.cls
  have hcl : PySem.W.clsIn X.K C = some { name := nm, bases := bs, mro := .ref C :: bm, ns := N, qualname := q, hasDict := true, slotNames := sn, subclasses := sub, abstract := ab, collection := col, hasDel := false } := by unfold PySem.W.clsIn; rw [hC] <;> rfl
  have ho := exn_at I.hok ea
  have KX := I.kIn
  have hD1 := KX _ _ hC
  obtain ⟨m, hns, hl⟩ := id I.loc
  obtain ⟨u, ru, lu⟩ := hl i ar.arg (.ref a) hi hσ (.inl hka)
  obtain rfl : u = Value.ref a := ru
  have hv : m ar.arg = some (.ref a) := by
    rcases lu with ⟨_, z⟩ | ⟨z, _⟩
    · exact z
    · rw [hka] at z
      rcases z with z | z <;> cases z
  have hac : a ≠ C := fun z => by
    rw [z] at ho
    rw [hD1] at ho
    have z2 := Option.some.inj ho
    have z3 := congrArg (·.data) z2
    cases z3
  have hsub : PySem.W.mroIn X.K C (.ref C) = some true := by
    unfold PySem.W.mroIn
    rw [hcl, Option.bind_some]
    simp
  obtain ⟨hp, g, d, t, os⟩ := s
  refine PySem.ks_wpAt_Expr_any (PySem.ks_wpAt_MethodCall (pl := pl) (PySem.ks_wpAt_super_base hks hkc (by decide) hfu (KX _ _ hfI) rfl hpar hco (KX _ _ hcode) rfl hvs hfile T.top ?_) hev) hin hsw
  obtain ⟨mb, hmb, hbt⟩ := I.ok.mod.blt
  refine PySem.W.ks_loadName_global I.ok.kind hks (PySem.Calls.loadGlobal_builtin (env := X.env) (mg := X.mg) (mb := mb) (by rw [I.ok.glob]; exact I.ok.mod.glob.keeps I.bk) hms (by rw [I.ok.blt]; exact hmb.keeps I.bk) ((hbt _ (by decide +kernel)).trans (by kernel_rfl)) ⟨rfl, ?_⟩)
  refine wpAny_loadName_free I.ok.kind hkc hcc ⟨_, KX _ _ hcell, rfl⟩ ?_
  refine wpAny_loadName_local I.ok.kind hka hns hv ?_
  refine PySem.ks_wpAny_isType_cls hD1 rfl ⟨rfl, ?_⟩
  refine PySem.ks_wpAny_call_super hD1 rfl ho rfl (fun c z => by cases z) (PySem.W.looks_mroIn KX hsub) (fun h' hso k' => ?_)
  have I1 : Inv X pins σ H ⟨h', g, d, t, os⟩ := I.kept (t' := t) k'
  have hlo : PySem.W.alongIn X.K "__init__" (((Value.ref C :: bm).dropWhile (· != .ref C)).drop 1) = some (some (.ref f0)) := by
    have z := T.sup
    unfold PySem.W.ks_superIn at z
    rw [hcl] at z
    exact z
  obtain ⟨of, hof, hofc⟩ : ∃ of, X.K.lookup f0 = some of ∧ of.cls = .type "function" := by
    have ht' : (X.K.lookup f0).map (·.cls) = some (.type "function") := T.ty
    cases z : X.K.lookup f0 with
    | none => rw [z] at ht'; cases ht'
    | some of => rw [z] at ht'; exact ⟨of, rfl, Option.some.inj ht'⟩
  refine PySem.ks_wpAny_getMethod_super (l₀ := .ref C :: bm) hso (PySem.W.looks_opaque I1.kIn T.st) ((PySem.W.looks_clsIn I1.kIn hcl).andThen .now) rfl I1.kIn hlo (I1.kIn _ _ hof) hofc hac (by decide) ?_
  have I2 : Inv X ((h'.objs.size, PySem.W.methodObj (.ref f0) (.ref a)) :: pins) σ H ⟨h'.push (PySem.W.methodObj (.ref f0) (.ref a)), g, d, t + 1, os⟩ :=
    pin_new I1 (fun _ _ z => Heap.get?_push_of_some _ z) (Nat.le_refl _) (Heap.get?_push_size h' rfl) (fun v z => nomatch z)
  refine callwith_cm I2 (base_none I1 (Nat.le_refl _)) T.fn (thn (ha.run pos _ _ σ H _ I2 h) fun us s3 ⟨vs, H2, I3, rv, q2⟩ => ⟨⟨pin_at I3, I3.kIn⟩, ?_⟩) he hpl
  refine thn (run_cm F0 hr hx I3 rv q2) fun v s4 ⟨y, H4, I4, _, q4⟩ => ⟨rfl, H4, I4, q4⟩
end
end Sup

set_option Elab.async false
set_option linter.all false
set_option maxRecDepth 100000
set_option maxHeartbeats 4000000
namespace Sup
open PySem PySem.Spec PyProof.Rows L2 ClX NdefX

section
variable {P : Program} {w : World} {K : PySem.W.Frag} {mg : Str → Option Value} {base : Heap} {N ps : List Str} {F : NF} {k : Nat} {sp spB : Sp} {C fI f0 cc : Addr} {oc doc pm ctv : Value} {od : Option Addr} {osl : Array (Option Value)}
  {e : Expr} {es : List Expr} {p0 p1 apos pos pos2 : Pos} {rest : List Stmt} {a0 : Arg} {pl : Addr → Sem Bool}

/-- THE RULE: an __init__ whose first statement is super().__init__(e, ..) -/
theorem sup_fn (S : NScope N ps ["__class__"] F.scope) (T : SupT P K C fI f0 cc F.c) (hms : mg "super" = none) (lk : K.lookup fI = some ⟨oc, od, .func (F.fd doc pm ctv), osl⟩) (hcd : PySem.W.codeIn K (.ref F.c) F.qual = true) (hcl : F.cl = [(("__class__" : Str), cc)])
    (hb : ∀ us : List Value, us.length = ps.length → bindArgs (F.fd doc pm ctv) ⟨us, []⟩ = pure (ps.zip us))
    (hbody : F.body = .Expr (.Call (.Attribute (.Call (.Name "super" p0) [] [] p1) "__init__" apos) (e :: es) [] pos) pos2 :: rest)
    (hks : F.scope.names.lookup ("super" : Str) = some .globalImplicit) (hpar : (F.params.posonlyargs ++ F.params.args).head? = some a0) (hN0 : N[0]? = some a0.arg) (hka : F.scope.names.lookup a0.arg = some .local)
    (F0 : FnR P w K mg base CX0 k f0 spB)
    (hsp : ∀ vs H Q E, sp vs H Q E → vs.length = ps.length ∧ ∃ a ws t, vs = .ref a :: ws ∧ H a = some (Exn a C none t))
    (hrd : ∀ (A : Around) (outer : List Env) (s : Shared) (H : Hp) (vs : List V) (Q : VK) (E : XK), Room k (A.deeper (envF F fI s.heap.objs.size)) → sp vs H Q E →
      ∃ ta t, PA (ncx CX0 P w K mg base N F fI A outer s H E) (e :: es) ta ∧ PSs (ncx CX0 P w K mg base N F fI A outer s H E) rest t ∧
        ∀ a ws, vs = .ref a :: ws → ta (startF N vs [none]) H fun us H1 => spB (.ref a :: us) H1 (fun _ H2 => t { nx := fun _ H' => Q .non H', rt := Q } (startF N vs [none]) H2) E0)
    (he : ∀ L, starEach (e :: es) (envF F fI L) = (false, eval e (envF F fI L)) :: starEach es (envF F fI L)) (hpl : ∀ L, (backTo pos (starEach es (envF F fI L))).any (·.1) = false)
    (hin : ∀ L, interactive (envF F fI L) = false) (hsw : ∀ L, swapsWith (.Call (.Attribute (.Call (.Name "super" p0) [] [] p1) "__init__" apos) (e :: es) [] pos) none pos2.line (envF F fI L) = pure false)
    (hev : ∀ L, eval (.Call (.Attribute (.Call (.Name "super" p0) [] [] p1) "__init__" apos) (e :: es) [] pos) (envF F fI L) = (do
      let ov ← attributeBase (.Call (.Name "super" p0) [] [] p1) "__init__" (envF F fI L) (eval (.Call (.Name "super" p0) [] [] p1) (envF F fI L))
      standAt apos.atName
      let (f, first) ← holding [ov] (getMethod ov "__init__" (pl L))
      callWith pos f first (backTo pos (starEach (e :: es) (envF F fI L))) [])) :
    FnR P w K mg base CX0 (k + 1) fI sp := by
  intro A outer s H us vs Q E hr e0 r hs
  obtain ⟨hl, a, ws, t0, rfl, ea⟩ := hsp _ _ _ _ hs
  have KX : K.In s.heap := e0.mod.kin.keeps fun b o e => (e0.bs b o e).1
  have lim : s.heap.NoLimit := e0.mod.nolimit.keeps fun b o e => (e0.bs b o e).1
  obtain ⟨ccl, ccd, csl, hcell⟩ := T.cell
  have hccb := e0.bs cc _ (e0.mod.kin _ _ hcell)
  have hclk : ∀ y c, F.cl.lookup y = some c → y = "__class__" ∧ c = cc := fun y c z => by
    rw [hcl] at z
    by_cases hy : y = "__class__"
    · subst hy
      simp [List.lookup] at z
      exact ⟨rfl, z.symm⟩
    · have q : (y == ("__class__" : Str)) = false := by simpa using hy
      simp [List.lookup, q] at z
  have hcc : F.cl.lookup ("__class__" : Str) = some cc := by rw [hcl]; simp [List.lookup]
  have CA : CellsAt F.cl ["__class__"] [none] s.heap H := {
    len := rfl
    all := fun y c z => by
      obtain ⟨_, rfl⟩ := hclk y c z
      exact ⟨hccb.2, _, _, hccb.1, rfl⟩
    inj := fun x y c z1 z2 => by rw [(hclk x c z1).1, (hclk y c z2).1]
    has := fun i y z => by
      match i, z with
      | 0, z =>
        have z' : ("__class__" : Str) = y := Option.some.inj z
        subst z'
        exact ⟨cc, hcc, fun v z2 => by simp at z2⟩
      | i + 1, z => simp at z }
  have hfr : ∀ y ∈ F.scope.names, y.2 ≠ .cell := S.nocell
  refine PySem.ks_codeAny_call_defAt (fd := F.fd doc pm ctv) (body := F.body) (binds := ps.zip us) hr.depth (KX _ _ lk) rfl lim (PySem.W.codeRec_of KX hcd) rfl (.of_eq (hb us (by rw [← r.length]; exact hl))) hfr (fun y hy => S.par _ (List.of_mem_zip (a := y.1) (b := y.2) hy).1) (fun h₁ hns kp => ?_) S.co S.gen S.kind
  have I : Inv (ncx CX0 P w K mg base N F fI A outer s H E) [] (startF N (.ref a :: ws) [none]) H { s with heap := h₁, toks := s.toks + (ps.zip us).length } := inv_startN S hr.hd e0 hl r CA hns kp
  obtain ⟨ta, t, hPA, hPS, hq⟩ := hrd A outer s H _ Q E (hr.deeper _) hs
  have hq := hq a ws rfl
  show _root_.PySem.wpAt (model P w) (ncx CX0 P w K mg base N F fI A outer s H E).A (.func F.body (ncx CX0 P w K mg base N F fI A outer s H E).env) (execs F.body (ncx CX0 P w K mg base N F fI A outer s H E).env) _ (ncx CX0 P w K mg base N F fI A outer s H E).xe _
  have st1 := sup_stmt (X := ncx CX0 P w K mg base N F fI A outer s H E) (body := F.body) (i := 0) (pos2 := pos2) (p0 := p0) (p1 := p1) (apos := apos) (pl := pl s.heap.objs.size) (Q := fun H2 => t { nx := fun _ H' => Q .non H', rt := Q } (startF N (.ref a :: ws) [none]) H2)
    T I hms hks (S.frk _ (by simp)) hcc rfl rfl lk hpar hN0 rfl hka ea F0 (hr.deeper _) pass0 hPA hq (he _) (hpl _) (hin _) (hsw _) (hev _)
  have fin : ∀ {σ' : L2.St} {H' : Hp} {v : V} {u : Value} {s' : Shared}, Inv (ncx CX0 P w K mg base N F fI A outer s H E) [] σ' H' s' → L2.RelV v u → Q v H' → CE outer P w H s Q u s' :=
    fun {σ' H' v u s'} J rv q => ⟨v, H', J.os, J.bare, J.base, J.hok, rv, q⟩
  generalize hB : F.body = B at st1 ⊢
  rw [hbody] at hB
  subst hB
  refine PySem.ks_wpAt_execs_cons (PySem.ks_wpAt_mono st1 (fun fl s' hfl => ?_) fun _ _ z => z)
  obtain ⟨rfl, H', I', q'⟩ := hfl
  refine PySem.wpAt_of_wpAny (wpAny_mono (hPS.run [] s' _ H' _ I' q') (fun fl s'' hs => ?_) fun _ _ z => z)
  cases fl with
  | ret u =>
    obtain ⟨v, σ', H', J, rv', q⟩ := hs
    exact fin J rv' q
  | next =>
    obtain ⟨σ', H', J, q⟩ := hs
    exact fin (v := V.non) (u := Value.none) J rfl q
  | brk =>
    obtain ⟨_, _, _, q⟩ := hs
    exact False.elim q
  | cont =>
    obtain ⟨_, _, _, q⟩ := hs
    exact False.elim q
end
end Sup

set_option Elab.async false
set_option linter.all false
set_option maxRecDepth 100000
set_option maxHeartbeats 4000000
namespace Sup
open PySem PySem.Spec PyProof.Rows L2 ClX NdefX

/-! ### the texts -/
abbrev arg_ (n : Str) (p : Pos) : Arg := { arg := n, annotation := none, pos := p }
def bA (p1 p2 : Pos) : Arguments := { posonlyargs := [], args := [arg_ "self" p1], vararg := some (arg_ "told" p2), kwonlyargs := [], kw_defaults := [], kwarg := none, defaults := [] }
def bB (q1 q2 q3 q4 : Pos) : List Stmt := [.Assign [.Attribute (.Name "self" q1) "told" q2] (.Name "told" q3) q4]
def bS : Scope := { kind := .function, names := [("self", .local), ("told", .local)], isGenerator := false, isCoroutine := false, more := [] }
def iA (fs : List (Str × Pos)) (p1 : Pos) : Arguments := { posonlyargs := [], args := arg_ "self" p1 :: fs.map (fun x => arg_ x.1 x.2), vararg := none, kwonlyargs := [], kw_defaults := [], kwarg := none, defaults := [] }
abbrev supCall (es : List Expr) (q1 q2 q3 q4 q5 : Pos) : Stmt := .Expr (.Call (.Attribute (.Call (.Name "super" q1) [] [] q2) "__init__" q3) es [] q4) q5
abbrev setF (f : Str) (r1 r2 r3 r4 : Pos) : Stmt := .Assign [.Attribute (.Name "self" r1) f r2] (.Name f r3) r4
def iS (fs : List Str) : Scope := { kind := .function, names := (("self" : Str), NameKind.local) :: (fs.map fun f => (f, NameKind.local)) ++ [(("__class__" : Str), NameKind.free), (("super" : Str), NameKind.globalImplicit)], isGenerator := false, isCoroutine := false, more := [] }

/-- what an exception has behind its making -/
def ErrAt (H : Hp) (a C : Addr) (fs : List (Str × V)) (vs : List V) : Prop := ∃ d t p : Addr, H a = some (Exn a C (some d) t) ∧ H d = some (exd d (fs ++ [(("told" : Str), V.ref p)])) ∧ H t = some (.tup vs)
/-- the base's __init__, its rest a tuple at p -/
def spBase (K : PySem.W.Frag) : Sp := fun vs H Q _ => ∃ (a C t : Addr) (rest : List V), vs = .ref a :: rest ∧ rest.length ≤ 1000 ∧ OexC K C ∧ PySem.W.findIn K (.ref C) "told" = some none ∧ H a = some (Exn a C none t) ∧
  ∀ (p d : Addr) (H' : Hp), H p = none → H d = none → d ≠ p → p ≠ a → d ≠ a → H' a = some (Exn a C (some d) t) → H' d = some (exd d [("told", .ref p)]) → (∀ b o, H b = some o → b ≠ a → H' b = some o) → Q .non H'
/-- an __init__ over it: attributes named fs -/
def spErr (C : Addr) (n : Nat) (fs : List Str) : Sp := fun vs H Q _ => ∃ (a t : Addr) (ws : List V), vs = .ref a :: ws ∧ ws.length = n ∧ H a = some (Exn a C none t) ∧
  ∀ (p d : Addr) (H' : Hp), H p = none → H d = none → d ≠ a → H' a = some (Exn a C (some d) t) → H' d = some (exd d ((fs.zip ws).reverse ++ [(("told" : Str), V.ref p)])) → (∀ b o, H b = some o → b ≠ a → H' b = some o) → Q .non H'

section
variable {P : Program} {w : World} {K : PySem.W.Frag} {mg : Str → Option Value} {base : Heap}
theorem base_bind {kV doc pm cdv ct : Value} {an : Option Addr} {p1 p2 q1 q2 q3 q4 : Pos} {qual : Str} : ∀ us rest : List Value, us.length = [("self" : Str)].length →
    bindArgs (PySem.W.fnOf "__init__" qual (bA p1 p2) (bB q1 q2 q3 q4) bS .none kV doc pm an cdv ct) ⟨us ++ rest, []⟩ = (newTuple rest >>= fun t => pure ([("self" : Str)].zip us ++ [(("told" : Str), t)]))
  | [a], [], _ => rfl
  | [a], r :: rs, _ => rfl
theorem base_fn {f0 : Addr} {oc kV doc pm cdv ct : Value} {an od : Option Addr} {osl : Array (Option Value)} {p1 p2 q1 q2 q3 q4 : Pos} {qual : Str}
    (lk : K.lookup f0 = some ⟨oc, od, .func (PySem.W.fnOf "__init__" qual (bA p1 p2) (bB q1 q2 q3 q4) bS .none kV doc pm an cdv ct), osl⟩) (hcd : PySem.W.codeIn K cdv qual = true) :
    FnR P w K mg base CX0 2 f0 (spBase K) := by
  have S : FnScope ["self", "told"] ([("self" : Str)] ++ [("told" : Str)]) bS := ⟨rfl, rfl, rfl, by decide +kernel, rfl, by decide +kernel, by decide +kernel⟩
  refine (StX.fn_star (k := 1) (N := ["self", "told"]) (ps := ["self"]) (pv := "told") (sp := fun vs H Q _ => ∃ (a C t p : Addr), vs = [.ref a, .ref p] ∧ OexC K C ∧ PySem.W.findIn K (.ref C) "told" = some none ∧ H a = some (Exn a C none t) ∧
      ∀ (d : Addr) (H' : Hp), H d = none → d ≠ a → H' = upd (upd H d (exd d [("told", .ref p)])) a (Exn a C (some d) t) → Q .non H')
    lk hcd S StX.cxUp_none base_bind fun A outer s H vs Q E hr hs => ?_).imp fun vs H Q E h => ?_
  · obtain ⟨a, C, t, p, rfl, T, hno, ha, k⟩ := hs
    refine ⟨_, pss_one (ps_est (pv 0) (pv 1)), ?_⟩
    exact ⟨_, rfl, _, rfl, a, C, t, rfl, T, hno, .inl ⟨ha, fun dx hd ne => k dx _ hd ne rfl⟩⟩
  · obtain ⟨a, C, t, rest, rfl, hl, T, hno, ha, k⟩ := h
    refine ⟨[.ref a], rest, rfl, rfl, Nat.le_trans hl (by rw [sizeLine_eq]; omega), fun p hp => ?_⟩
    have ap : a ≠ p := ne_of_none ha hp
    refine ⟨a, C, t, p, rfl, T, hno, (upd_ne ap).trans ha, fun d H' hd ne e => ?_⟩
    subst e
    have dp : d ≠ p := fun z => by
      rw [z, upd_same] at hd
      cases hd
    rw [upd_ne dp] at hd
    refine k p d _ hp hd dp (Ne.symm ap) ne upd_same ((upd_ne ne).trans upd_same) fun b o hb nb => ?_
    rw [upd_ne nb, upd_ne (ne_of_none hb hd), upd_ne (ne_of_none hb hp)]
    exact hb

/-- what is known of such a class's __init__ where it stands -/
structure InitT (P : Program) (K : PySem.W.Frag) (C fI f0 cc cda : Addr) (qual : Str) (fs : List (Str × Pos)) (p1 : Pos) (body : List Stmt) : Prop where
  sup : SupT P K C fI f0 cc cda
  no : ∀ f ∈ ("told" : Str) :: fs.map (·.1), PySem.W.findIn K (.ref C) f = some none
  lk : ∃ oc od doc pm ctv osl, K.lookup fI = some ⟨oc, od, .func ((NF.mk "__init__" qual (iA fs p1) body (iS (fs.map (·.1))) [(("__class__" : Str), cc)] cda).fd doc pm ctv), osl⟩
  cd : PySem.W.codeIn K (.ref cda) qual = true
abbrev nfI (qual : Str) (fs : List (Str × Pos)) (p1 : Pos) (body : List Stmt) (cc cda : Addr) : NF := ⟨"__init__", qual, iA fs p1, body, iS (fs.map (·.1)), [(("__class__" : Str), cc)], cda⟩

theorem err_len {C : Addr} {n : Nat} {fs : List Str} {vs : List V} {H : Hp} {Q : VK} {E : XK} (h : spErr C n fs vs H Q E) : vs.length = n + 1 ∧ ∃ a ws t, vs = .ref a :: ws ∧ H a = some (Exn a C none t) := by
  obtain ⟨a, t, ws, rfl, hl, ha, _⟩ := h
  exact ⟨by rw [List.length_cons, hl], a, ws, t, rfl, ha⟩

/-- the scope of such an __init__ with one parameter f -/
theorem sc_one {f : Str} (hs : f ≠ "self") (hc : f ≠ "__class__") (hu : f ≠ "super") : NScope ["self", f, "__class__"] ["self", f] ["__class__"] (iS [f]) ∧ List.lookup f (iS [f]).names = some NameKind.local ∧ List.lookup ("super" : Str) (iS [f]).names = some NameKind.globalImplicit := by
  have n0 : (("self" : Str) == f) = false := by simpa using Ne.symm hs
  have n1 : (("__class__" : Str) == f) = false := by simpa using Ne.symm hc
  have n2 : (("super" : Str) == f) = false := by simpa using Ne.symm hu
  have n3 : (f == ("self" : Str)) = false := by simpa using hs
  have sc : List.lookup f (iS [f]).names = some NameKind.local := by
    show List.lookup f ((("self" : Str), NameKind.local) :: (f, NameKind.local) :: [(("__class__" : Str), NameKind.free), (("super" : Str), NameKind.globalImplicit)]) = _
    simp [List.lookup, n3]
  have S : NScope ["self", f, "__class__"] ["self", f] ["__class__"] (iS [f]) := {
    kind := rfl
    co := rfl
    gen := rfl
    nd := by simp [Ne.symm hs, hc]; decide +kernel
    pre := rfl
    par := fun x hx => by
      rcases List.mem_cons.mp hx with rfl | hx
      · rfl
      · rw [List.mem_singleton.mp hx]
        exact sc
    nocell := fun y hy => by
      have hy : y ∈ [(("self" : Str), NameKind.local), (f, NameKind.local), (("__class__" : Str), NameKind.free), (("super" : Str), NameKind.globalImplicit)] := hy
      simp only [List.mem_cons, List.not_mem_nil, or_false] at hy
      rcases hy with rfl | rfl | rfl | rfl <;> intro z <;> cases z
    free := fun y hy z => by
      have hy : y ∈ [(("self" : Str), NameKind.local), (f, NameKind.local), (("__class__" : Str), NameKind.free), (("super" : Str), NameKind.globalImplicit)] := hy
      simp only [List.mem_cons, List.not_mem_nil, or_false] at hy
      rcases hy with rfl | rfl | rfl | rfl <;> first | exact List.mem_singleton.mpr rfl | cases z
    frk := fun x hx => by
      rw [List.mem_singleton.mp hx]
      show List.lookup ("__class__" : Str) ((("self" : Str), NameKind.local) :: (f, NameKind.local) :: [(("__class__" : Str), NameKind.free), (("super" : Str), NameKind.globalImplicit)]) = _
      have e : (("__class__" : Str) == ("self" : Str)) = false := by decide +kernel
      simp [List.lookup, n1, e] }
  have hks : List.lookup ("super" : Str) (iS [f]).names = some NameKind.globalImplicit := by
    show List.lookup ("super" : Str) ((("self" : Str), NameKind.local) :: (f, NameKind.local) :: [(("__class__" : Str), NameKind.free), (("super" : Str), NameKind.globalImplicit)]) = _
    have e : (("super" : Str) == ("self" : Str)) = false := by decide +kernel
    have e2 : (("super" : Str) == ("__class__" : Str)) = false := by decide +kernel
    simp [List.lookup, n2, e, e2]
  exact ⟨S, sc, hks⟩
/-- one attribute -/
theorem init_one {C fI f0 cc cda : Addr} {qual f : Str} {pf p1 q1 q2 q3 q4 q5 r0 r1 r2 r3 r4 : Pos} (hs : f ≠ "self") (hc : f ≠ "__class__") (hu : f ≠ "super") (ht : f ≠ "told") (hd : (f == ("__debug__" : Str)) = false) (hcd : (f == ("__classdict__" : Str)) = false)
    (T : InitT P K C fI f0 cc cda qual [(f, pf)] p1 [supCall [.Name f r0] q1 q2 q3 q4 q5, setF f r1 r2 r3 r4]) (hms : mg "super" = none) (F0 : FnR P w K mg base CX0 2 f0 (spBase K)) {pl : Addr → Sem Bool}
    (hb : ∀ (doc pm ctv u v : Value), bindArgs ((nfI qual [(f, pf)] p1 [supCall [.Name f r0] q1 q2 q3 q4 q5, setF f r1 r2 r3 r4] cc cda).fd doc pm ctv) ⟨[u, v], []⟩ = pure [(("self" : Str), u), (f, v)])
    (hev : ∀ L, eval (.Call (.Attribute (.Call (.Name "super" q1) [] [] q2) "__init__" q3) [.Name f r0] [] q4) (envF (nfI qual [(f, pf)] p1 [supCall [.Name f r0] q1 q2 q3 q4 q5, setF f r1 r2 r3 r4] cc cda) fI L) = (do
      let ov ← attributeBase (.Call (.Name "super" q1) [] [] q2) "__init__" (envF (nfI qual [(f, pf)] p1 [supCall [.Name f r0] q1 q2 q3 q4 q5, setF f r1 r2 r3 r4] cc cda) fI L) (eval (.Call (.Name "super" q1) [] [] q2) (envF (nfI qual [(f, pf)] p1 [supCall [.Name f r0] q1 q2 q3 q4 q5, setF f r1 r2 r3 r4] cc cda) fI L))
      standAt q3.atName
      let (g, first) ← holding [ov] (getMethod ov "__init__" (pl L))
      callWith q4 g first (backTo q4 (starEach [.Name f r0] (envF (nfI qual [(f, pf)] p1 [supCall [.Name f r0] q1 q2 q3 q4 q5, setF f r1 r2 r3 r4] cc cda) fI L))) [])) :
    FnR P w K mg base CX0 3 fI (spErr C 1 [f]) := by
  obtain ⟨oc, od, doc, pm, ctv, osl, lk⟩ := T.lk
  obtain ⟨S, sc, hks⟩ := sc_one hs hc hu
  refine sup_fn (F := nfI qual [(f, pf)] p1 [supCall [.Name f r0] q1 q2 q3 q4 q5, setF f r1 r2 r3 r4] cc cda) (N := ["self", f, "__class__"]) (ps := ["self", f]) (k := 2) (a0 := arg_ "self" p1) S T.sup hms lk T.cd rfl
    (fun us hl => match us, hl with | [_, _], _ => hb _ _ _ _ _) rfl hks rfl rfl rfl F0 (fun vs H Q E h => err_len h) (fun A outer s H vs Q E hr h => ?_) (fun _ => rfl) (fun _ => rfl) (fun _ => rfl) (fun _ => rfl) hev
  refine ⟨_, _, pa_cons (pe_var (i := 1) rfl (.inl sc) hd hcd) pa_nil, pss_one (ps_est (pe_var (i := 0) rfl (.inl rfl)) (pe_var (i := 1) rfl (.inl sc) hd hcd)), fun a ws e => ?_⟩
  obtain ⟨a', t, ws', rfl, hl, ha, k⟩ := h
  cases e
  match ws, hl with
  | [v], _ =>
    refine ⟨_, rfl, a, C, t, [v], rfl, (by show 1 ≤ 1000; decide), T.sup.oex, T.no _ List.mem_cons_self, ha, fun p d H' hp hd' dp pa da ea ed kp => ?_⟩
    refine ⟨_, rfl, _, rfl, a, C, t, rfl, T.sup.oex, T.no _ (by simp), .inr ⟨d, _, ea, ed, (by show 1 ≤ 900; decide), ?_⟩⟩
    have had : a ≠ d := Ne.symm da
    exact k p d _ hp hd' da ((upd_ne had).trans ea) upd_same fun b o hb nb => (upd_ne (ne_of_none hb hd')).trans (kp b o hb nb)
/-- one parameter, no attribute -/
theorem init_nil {C fI f0 cc cda : Addr} {qual f : Str} {pf p1 q1 q2 q3 q4 q5 r0 : Pos} (hs : f ≠ "self") (hc : f ≠ "__class__") (hu : f ≠ "super") (ht : f ≠ "told") (hd : (f == ("__debug__" : Str)) = false) (hcd : (f == ("__classdict__" : Str)) = false)
    (T : InitT P K C fI f0 cc cda qual [(f, pf)] p1 [supCall [.Name f r0] q1 q2 q3 q4 q5]) (hms : mg "super" = none) (F0 : FnR P w K mg base CX0 2 f0 (spBase K)) {pl : Addr → Sem Bool}
    (hb : ∀ (doc pm ctv u v : Value), bindArgs ((nfI qual [(f, pf)] p1 [supCall [.Name f r0] q1 q2 q3 q4 q5] cc cda).fd doc pm ctv) ⟨[u, v], []⟩ = pure [(("self" : Str), u), (f, v)])
    (hev : ∀ L, eval (.Call (.Attribute (.Call (.Name "super" q1) [] [] q2) "__init__" q3) [.Name f r0] [] q4) (envF (nfI qual [(f, pf)] p1 [supCall [.Name f r0] q1 q2 q3 q4 q5] cc cda) fI L) = (do
      let ov ← attributeBase (.Call (.Name "super" q1) [] [] q2) "__init__" (envF (nfI qual [(f, pf)] p1 [supCall [.Name f r0] q1 q2 q3 q4 q5] cc cda) fI L) (eval (.Call (.Name "super" q1) [] [] q2) (envF (nfI qual [(f, pf)] p1 [supCall [.Name f r0] q1 q2 q3 q4 q5] cc cda) fI L))
      standAt q3.atName
      let (g, first) ← holding [ov] (getMethod ov "__init__" (pl L))
      callWith q4 g first (backTo q4 (starEach [.Name f r0] (envF (nfI qual [(f, pf)] p1 [supCall [.Name f r0] q1 q2 q3 q4 q5] cc cda) fI L))) [])) :
    FnR P w K mg base CX0 3 fI (spErr C 1 []) := by
  obtain ⟨oc, od, doc, pm, ctv, osl, lk⟩ := T.lk
  obtain ⟨S, sc, hks⟩ := sc_one hs hc hu
  refine sup_fn (F := nfI qual [(f, pf)] p1 [supCall [.Name f r0] q1 q2 q3 q4 q5] cc cda) (N := ["self", f, "__class__"]) (ps := ["self", f]) (k := 2) (a0 := arg_ "self" p1) S T.sup hms lk T.cd rfl
    (fun us hl => match us, hl with | [_, _], _ => hb _ _ _ _ _) rfl hks rfl rfl rfl F0 (fun vs H Q E h => err_len h) (fun A outer s H vs Q E hr h => ?_) (fun _ => rfl) (fun _ => rfl) (fun _ => rfl) (fun _ => rfl) hev
  refine ⟨_, _, pa_cons (pe_var (i := 1) rfl (.inl sc) hd hcd) pa_nil, pss_nil, fun a ws e => ?_⟩
  obtain ⟨a', t, ws', rfl, hl, ha, k⟩ := h
  cases e
  match ws, hl with
  | [v], _ =>
    refine ⟨_, rfl, a, C, t, [v], rfl, (by show 1 ≤ 1000; decide), T.sup.oex, T.no _ List.mem_cons_self, ha, fun p d H' hp hd' dp pa da ea ed kp => ?_⟩
    exact k p d _ hp hd' da ea ed kp
/-- two attributes -/
theorem init_two {C fI f0 cc cda : Addr} {qual f g : Str} {pf pg p1 q1 q2 q3 q4 q5 r0 r1 r2 r3 r4 r5 t1 t2 t3 t4 : Pos} (S : NScope ["self", f, g, "__class__"] ["self", f, g] ["__class__"] (iS [f, g])) (sc : List.lookup f (iS [f, g]).names = some NameKind.local) (sg : List.lookup g (iS [f, g]).names = some NameKind.local)
    (hks : List.lookup ("super" : Str) (iS [f, g]).names = some NameKind.globalImplicit) (hd : (f == ("__debug__" : Str)) = false) (hcd : (f == ("__classdict__" : Str)) = false) (gd : (g == ("__debug__" : Str)) = false) (gcd : (g == ("__classdict__" : Str)) = false)
    (T : InitT P K C fI f0 cc cda qual [(f, pf), (g, pg)] p1 [supCall [.Name f r0, .Name g r5] q1 q2 q3 q4 q5, setF f r1 r2 r3 r4, setF g t1 t2 t3 t4]) (hms : mg "super" = none) (F0 : FnR P w K mg base CX0 2 f0 (spBase K)) {pl : Addr → Sem Bool}
    (hb : ∀ (doc pm ctv u v z : Value), bindArgs ((nfI qual [(f, pf), (g, pg)] p1 [supCall [.Name f r0, .Name g r5] q1 q2 q3 q4 q5, setF f r1 r2 r3 r4, setF g t1 t2 t3 t4] cc cda).fd doc pm ctv) ⟨[u, v, z], []⟩ = pure [(("self" : Str), u), (f, v), (g, z)])
    (hev : ∀ L, eval (.Call (.Attribute (.Call (.Name "super" q1) [] [] q2) "__init__" q3) [.Name f r0, .Name g r5] [] q4) (envF (nfI qual [(f, pf), (g, pg)] p1 [supCall [.Name f r0, .Name g r5] q1 q2 q3 q4 q5, setF f r1 r2 r3 r4, setF g t1 t2 t3 t4] cc cda) fI L) = (do
      let ov ← attributeBase (.Call (.Name "super" q1) [] [] q2) "__init__" (envF (nfI qual [(f, pf), (g, pg)] p1 [supCall [.Name f r0, .Name g r5] q1 q2 q3 q4 q5, setF f r1 r2 r3 r4, setF g t1 t2 t3 t4] cc cda) fI L) (eval (.Call (.Name "super" q1) [] [] q2) (envF (nfI qual [(f, pf), (g, pg)] p1 [supCall [.Name f r0, .Name g r5] q1 q2 q3 q4 q5, setF f r1 r2 r3 r4, setF g t1 t2 t3 t4] cc cda) fI L))
      standAt q3.atName
      let (gg, first) ← holding [ov] (getMethod ov "__init__" (pl L))
      callWith q4 gg first (backTo q4 (starEach [.Name f r0, .Name g r5] (envF (nfI qual [(f, pf), (g, pg)] p1 [supCall [.Name f r0, .Name g r5] q1 q2 q3 q4 q5, setF f r1 r2 r3 r4, setF g t1 t2 t3 t4] cc cda) fI L))) [])) :
    FnR P w K mg base CX0 3 fI (spErr C 2 [f, g]) := by
  obtain ⟨oc, od, doc, pm, ctv, osl, lk⟩ := T.lk
  refine sup_fn (F := (nfI qual [(f, pf), (g, pg)] p1 [supCall [.Name f r0, .Name g r5] q1 q2 q3 q4 q5, setF f r1 r2 r3 r4, setF g t1 t2 t3 t4] cc cda)) (N := ["self", f, g, "__class__"]) (ps := ["self", f, g]) (k := 2) (a0 := arg_ "self" p1) S T.sup hms lk T.cd rfl
    (fun us hl => match us, hl with | [_, _, _], _ => hb _ _ _ _ _ _) rfl hks rfl rfl rfl F0 (fun vs H Q E h => err_len h) (fun A outer s H vs Q E hr h => ?_) (fun _ => rfl) (fun _ => rfl) (fun _ => rfl) (fun _ => rfl) hev
  refine ⟨_, _, pa_cons (pe_var (i := 1) rfl (.inl sc) hd hcd) (pa_cons (pe_var (i := 2) rfl (.inl sg) gd gcd) pa_nil), pss_cons (ps_est (pe_var (i := 0) rfl (.inl rfl)) (pe_var (i := 1) rfl (.inl sc) hd hcd)) (pss_one (ps_est (pe_var (i := 0) rfl (.inl rfl)) (pe_var (i := 2) rfl (.inl sg) gd gcd))), fun a ws e => ?_⟩
  obtain ⟨a', t, ws', rfl, hl, ha, k⟩ := h
  cases e
  match ws, hl with
  | [v, u], _ =>
    refine ⟨_, rfl, _, rfl, a, C, t, [v, u], rfl, (by show 2 ≤ 1000; decide), T.sup.oex, T.no _ List.mem_cons_self, ha, fun p d H' hp hd' dp pa da ea ed kp => ?_⟩
    have had : a ≠ d := Ne.symm da
    refine ⟨_, rfl, _, rfl, a, C, t, rfl, T.sup.oex, T.no _ (by simp), .inr ⟨d, _, ea, ed, (by show 1 ≤ 900; decide), ?_⟩⟩
    refine ⟨_, rfl, _, rfl, a, C, t, rfl, T.sup.oex, T.no _ (by simp), .inr ⟨d, _, (upd_ne had).trans ea, upd_same, (by show 2 ≤ 900; decide), ?_⟩⟩
    rw [upd_upd]
    exact k p d _ hp hd' da ((upd_ne had).trans ea) upd_same fun b o hb nb => (upd_ne (ne_of_none hb hd')).trans (kp b o hb nb)
end
end Sup

set_option Elab.async false
set_option linter.all false
set_option maxRecDepth 100000
set_option maxHeartbeats 4000000
namespace Sup
open PySem PySem.Spec PyProof.Rows L2 ClX NdefX

/-- what a class of errors must have for its instances to be read, asked and shown -/
structure ErrC (K : PySem.W.Frag) (C : Addr) : Prop where
  ga : PySem.W.findIn K (.ref C) "__getattribute__" = some (some (.builtin "BaseException.__getattribute__"))
  gg : PySem.W.findIn K (.ref C) "__getattr__" = some none
  exC : PySem.W.subIn K (.ref C) (.type "BaseException") = some true
  hdC : PySem.W.hasDictIn K C = true
  cl : PySem.W.findIn K (.ref C) "__class__" = some (some (.builtin "object.__class__"))
  ob : PySem.W.mroIn K C (.type "object") = some true
  st : PySem.W.findIn K (.ref C) "__str__" = some (some (.builtin "BaseException.__str__"))
structure GetC (K : PySem.W.Frag) : Prop where
  hn : PySem.W.specialIn K (.builtin "object.__class__") "__get__" = some (some (.builtin "getset_descriptor.__get__"))
  ht : PySem.W.takesIn K (.builtin "object.__class__") = some true
theorem ErrC.is {K : PySem.W.Frag} {C : Addr} (T : ErrC K C) : (PySem.W.clsIn K C).isSome = true := by
  have h := T.hdC
  unfold PySem.W.hasDictIn at h
  cases e : PySem.W.clsIn K C with
  | none => rw [e] at h; cases h
  | some cd => rfl

theorem ErrAt.same {H H' : Hp} {a C : Addr} {fs : List (Str × V)} {vs : List V} (h : ErrAt H a C fs vs) (k : ∀ b o, H b = some o → H' b = some o) : ErrAt H' a C fs vs := by
  obtain ⟨d, t, p, h1, h2, h3⟩ := h
  exact ⟨d, t, p, k _ _ h1, k _ _ h2, k _ _ h3⟩
section
variable {X : Cx} {pins : List (Addr × Obj)} {σ : L2.St} {H : Hp} {s : Shared} {a C : Addr} {fs : List (Str × V)} {vs : List V}
theorem err_inst (I : Inv X pins σ H s) (h : ErrAt H a C fs vs) : ∃ (d t p : Addr) (od : Obj) (mA : Str → Option Value), PySem.W.InstAt s.heap a (exnObj C (some d) t) C (some od) ∧ (∀ n, PySem.W.lookIn n od = some (mA n)) ∧ (∀ f, RelO ((fs ++ [(("told" : Str), V.ref p)]).lookup f) (mA f)) ∧ H t = some (.tup vs) := by
  obtain ⟨d, t, p, h1, h2, h3⟩ := h
  have ho := exn_at I.hok h1
  obtain ⟨mA, hns, rel⟩ := exd_at I.hok h2
  obtain ⟨od, hod, hl⟩ := lookIn_ns hns
  exact ⟨d, t, p, od, mA, ⟨ho, rfl, rfl, hod⟩, hl, rel, h3⟩
end

/-! ### making -/
def tErr (C : Addr) (n : Nat) (fs : List Str) (ta : TA) : TE := fun σ H Q => ta σ H fun vs H1 => vs.length = n ∧ ∀ (a : Addr) (H' : Hp), H1 a = none → (∀ b o, H1 b = some o → H' b = some o) → ErrAt H' a C (fs.zip vs).reverse vs → Q (.ref a) H'
section
variable {X : Cx} {e : Expr} {es : List Expr} {ta : TA} {te : TE} {p pos : Pos} {x f : Str}
theorem pe_err {C fI : Addr} {k n : Nat} {fs : List Str} (T : OexC X.K C) (iC : PySem.W.findIn X.K (.ref C) "__init__" = some (some (.ref fI))) (tI : PySem.W.typeIn X.K (.ref fI) = some (.type "function"))
    (F1 : FnR X.prog X.w X.K X.mg X.base CX0 k fI (spErr C n fs)) (hn : n ≤ 1000) (hr : Room (k + 1) X.A) (hg : Gl X x) (hm : X.mg x = some (.ref C)) (ha : PA X (e :: es) ta)
    (hdb : (x == ("__debug__" : Str)) = false := by decide) (he : starEach (e :: es) X.env = (false, eval e X.env) :: starEach es X.env := by rfl) (hpl : (backTo pos (starEach es X.env)).any (·.1) = false := by rfl) :
    PE X (.Call (.Name x p) (e :: es) [] pos) (tErr C n fs ta) := by
  have ha' : PA X (e :: es) (fun σ H Q => ∃ R : List V → Hp → Prop, ta σ H R ∧ ∀ vs H1, R vs H1 → Q vs H1) :=
    ⟨fun pos pins s σ H Q I ⟨R, h, k⟩ => thn (ha.run pos pins s σ H R I h) fun us s1 ⟨vs, H1, I1, r1, q⟩ => ⟨vs, H1, I1, r1, k vs H1 q⟩⟩
  refine ⟨fun pins s σ H Q I h => (pe_exv T iC tI F1 hr hg hm ha' hdb he hpl).run pins s σ H Q I ⟨_, h, fun vs H1 q => ⟨by rw [q.1]; exact hn, fun t a ht na ne => ?_⟩⟩⟩
  refine ⟨a, t, vs, rfl, q.1, upd_same, fun p d H' hp hd da ea ed k => ⟨rfl, q.2 a H' na (fun b o hb => ?_) ⟨d, t, p, ea, ed, ?_⟩⟩⟩
  · refine k b o ?_ (ne_of_none hb na)
    rw [upd_ne (ne_of_none hb na), upd_ne (ne_of_none hb ht)]
    exact hb
  · refine k t _ ?_ (Ne.symm ne)
    rw [upd_ne (Ne.symm ne), upd_same]

/-! ### reading an attribute -/
def tXat (K : PySem.W.Frag) (f : Str) (te : TE) : TE := fun σ H Q => te σ H fun x H1 => ∃ (a C : Addr) (fs : List (Str × V)) (vs : List V) (v : V), x = .ref a ∧ ErrC K C ∧ PySem.W.findIn K (.ref C) f = some none ∧ ErrAt H1 a C fs vs ∧ fs.lookup f = some v ∧ Q v H1
theorem lookup_left {f : Str} {v : V} {gs : List (Str × V)} : ∀ {fs : List (Str × V)}, fs.lookup f = some v → (fs ++ gs).lookup f = some v
  | [], h => by cases h
  | (g, y) :: fs, h => by
    rw [List.cons_append, lookup_put]
    rw [lookup_put] at h
    by_cases e : f = g
    · rw [if_pos e] at h ⊢
      exact h
    · rw [if_neg e] at h ⊢
      exact lookup_left h
theorem pe_xat (he : PE X e te) (hb : attributeBase e f X.env (eval e X.env) = eval e X.env := by rfl) : PE X (.Attribute e f pos) (tXat X.K f te) := by
  refine ⟨fun pins s σ H Q I h => attr_of hb (thn (he.run pins s σ H _ I h) fun u s1 hh => ?_)⟩
  obtain ⟨x, H1, I1, rx, a, C, fs, vs, v, ex, T, hno, er, l, q⟩ := hh
  subst ex
  obtain rfl : u = Value.ref a := rx
  obtain ⟨d, t, p, od, mA, J, hl, rel, _⟩ := err_inst I1 er
  obtain ⟨u, hu, ru⟩ := RelO.some_of (v := v) (o := mA f) (by rw [← lookup_left (gs := [(("told" : Str), V.ref p)]) l]; exact rel f)
  exact HandSPX.exc_get I1.kIn J T.ga T.gg T.exC (PySem.W.findObj_own T.hdC hno rfl (by rw [hl, hu])) (handed_of ru) ⟨v, H1, I1.tok _, ru, q⟩

/-! ### isinstance, str -/
def rIsx (K : PySem.W.Frag) : List V → Hp → VK → Prop := fun xs H Q => ∃ (a C : Addr) (c : V) (u : Value) (fs : List (Str × V)) (vs : List V) (b : Bool), xs = [.ref a, c] ∧ ClsV c u ∧ ErrC K C ∧ GetC K ∧ ErrAt H a C fs vs ∧ PySem.W.kitOne K (.ref C) u = some b ∧ Q (.bl b) H
theorem call_isx : CallR X (.builtin "isinstance") (rIsx X.K) := by
  intro pins s σ H xs us Q I r h
  obtain ⟨a, C, c, u, fs, vs, b, rfl, hc, T, G, er, e, q⟩ := h
  obtain ⟨u1, u2, rfl, r1, r2⟩ := vals2 r
  obtain rfl := hc.eq r2
  obtain rfl : u1 = Value.ref a := r1
  obtain ⟨d, t, p, od, mA, J, _⟩ := err_inst I er
  exact PySem.W.kia_one (PySem.W.kitx_exc T.is T.ga T.gg T.exC T.cl G.hn G.ht T.ob) I.kIn J e (fun z => nomatch z) fun tk => ⟨.bl b, H, I.tok tk, rfl, q⟩
def rStrx (K : PySem.W.Frag) : List V → Hp → VK → Prop := fun xs H Q => ∃ (a C : Addr) (fs : List (Str × V)) (y : Str), xs = [.ref a] ∧ ErrC K C ∧ ErrAt H a C fs [.str y] ∧ Q (.str y) H
theorem call_strx (hu : X.A.units + 2 < cLine) : CallR X (.type "str") (rStrx X.K) := by
  intro pins s σ H xs us Q I r h
  obtain ⟨a, C, fs, y, rfl, T, er, q⟩ := h
  obtain ⟨u, rfl, r1⟩ := vals1 r
  obtain rfl : u = Value.ref a := r1
  obtain ⟨d, t, p, od, mA, J, _, _, ht⟩ := err_inst I er
  obtain ⟨_, its, rv, tp⟩ := (show ObjOk X.prog X.w H s.heap t (.tup [.str y]) from I.hok t _ ht)
  obtain ⟨z, rfl, tk, rfl⟩ := vals1 rv
  refine PySem.P.str_of_C_one hu ⟨I.kIn, _, _, J.at_, rfl, rfl, rfl⟩ (m := y) (tk := tk) ?_ T.st T.exC ⟨.str y, H, I, ⟨_, rfl⟩, q⟩
  obtain ⟨o, h1, h2, n, h3⟩ := tp
  exact ⟨o, n, h1, h2, h3⟩
end
end Sup

set_option Elab.async false
set_option linter.all false
set_option maxRecDepth 100000
set_option maxHeartbeats 4000000
/-! own errors whose __init__ says super().__init__(..) over a base with a star: raised -/
namespace Sup
open PySem PySem.Spec PyProof.Rows L2 ClX NdefX
/-- X(e, ..): what it leaves, with the places told -/
def tErr2 (C : Addr) (n : Nat) (fs : List Str) (ta : TA) : TE := fun σ H Q => ta σ H fun vs H1 => vs.length = n ∧ ∀ (a d t p : Addr) (H' : Hp), H1 a = none → H1 d = none → (∀ b o, H1 b = some o → H' b = some o) → H' a = some (Exn a C (some d) t) → H' d = some (exd d ((fs.zip vs).reverse ++ [(("told" : Str), V.ref p)])) → Q (.ref a) H'
section
variable {X : Cx} {e : Expr} {es : List Expr} {ta : TA} {te : TE} {p pos : Pos} {x f : Str}
theorem pe_err2 {C fI : Addr} {k n : Nat} {fs : List Str} (T : OexC X.K C) (iC : PySem.W.findIn X.K (.ref C) "__init__" = some (some (.ref fI))) (tI : PySem.W.typeIn X.K (.ref fI) = some (.type "function"))
    (F1 : FnR X.prog X.w X.K X.mg X.base CX0 k fI (spErr C n fs)) (hn : n ≤ 1000) (hr : Room (k + 1) X.A) (hg : Gl X x) (hm : X.mg x = some (.ref C)) (ha : PA X (e :: es) ta)
    (hdb : (x == ("__debug__" : Str)) = false := by decide) (he : starEach (e :: es) X.env = (false, eval e X.env) :: starEach es X.env := by rfl) (hpl : (backTo pos (starEach es X.env)).any (·.1) = false := by rfl) :
    PE X (.Call (.Name x p) (e :: es) [] pos) (tErr2 C n fs ta) := by
  have ha' : PA X (e :: es) (fun σ H Q => ∃ R : List V → Hp → Prop, ta σ H R ∧ ∀ vs H1, R vs H1 → Q vs H1) :=
    ⟨fun pos pins s σ H Q I ⟨R, h, k⟩ => thn (ha.run pos pins s σ H R I h) fun us s1 ⟨vs, H1, I1, r1, q⟩ => ⟨vs, H1, I1, r1, k vs H1 q⟩⟩
  refine ⟨fun pins s σ H Q I h => (pe_exv T iC tI F1 hr hg hm ha' hdb he hpl).run pins s σ H Q I ⟨_, h, fun vs H1 q => ⟨by rw [q.1]; exact hn, fun t a ht na ne => ?_⟩⟩⟩
  refine ⟨a, t, vs, rfl, q.1, upd_same, fun p d H' hp hd da ea ed k => ⟨rfl, q.2 a d t p H' na ?_ (fun b o hb => ?_) ea ed⟩⟩
  · cases e : H1 d with
    | none => rfl
    | some o =>
      rw [upd_ne (ne_of_none e na), upd_ne (ne_of_none e ht), e] at hd
      cases hd
  · refine k b o ?_ (ne_of_none hb na)
    rw [upd_ne (ne_of_none hb na), upd_ne (ne_of_none hb ht)]
    exact hb
/-- such an expression makes an exception -/
theorem pmk_of {e : Expr} {te : TE} (hx : X.ex = []) (he : PE X e te) :
    PMk X e (fun σ H Q => te σ H fun y H1 => ∃ (a C d t : Addr) (fs : List (Str × V)), y = .ref a ∧ H1 a = some (Exn a C (some d) t) ∧ H1 d = some (exd d fs) ∧ Fr0 X.H_0 a ∧ Raises X (.ref C) ∧ Q (.ref C) (some d) (upd (delH H1 a) d (.xd fs))) := by
  intro pins s σ H Q I h
  refine wpAny_mono (he.run pins s σ H _ I h) (fun u s1 hu => ?_) fun _ _ x => x
  obtain ⟨v, H1, I1, r1, a, C, d, t, fs, rfl, ha, hd, h0, hr, q⟩ := hu
  cases r1
  have ho := exn_at I1.hok ha
  obtain ⟨G, gs, ga, J⟩ := I1.untrack (φ := _) ha h0 hx
  have da : d ≠ a := fun z => by
    obtain ⟨mA, ⟨o, es, ep, e1, e2, _⟩, _⟩ := exd_at I1.hok hd
    rw [z, ho] at e1
    have z2 := Option.some.inj e1
    subst z2
    cases e2
  have hd2 : delH H1 a d = some (exd d fs) := (delH_ne da).trans hd
  obtain ⟨mA, hns, rel⟩ := exd_at J.hok hd2
  have hG : ∃ u, G.get? d = some u := let ⟨o, es, ep, e1, _⟩ := hns; ⟨o, e1⟩
  have J2 : Inv X pins σ (upd (delH H1 a) d (.xd fs)) { s1 with heap := G } :=
    J.write (t' := s1.toks) (h' := G) (x := d) (e := d) (o := .xd fs) (by rw [hd2]; exact True.intro) (.inl rfl) (fun b u _ q => q) hG ⟨mA, hns, rel⟩
  exact ⟨a, exnObj C (some d) t, _, { s1 with heap := G }, _, .ref C, some d, rfl, J2, gs, ga, ho, ⟨rfl, rfl⟩, rfl, rfl, by rw [upd_ne (Ne.symm da), delH_same], rfl, I1.bare, hr, q⟩
/-- raise X(e, ..): the reading -/
def tRz (X : Cx) (C : Addr) (n : Nat) (fs : List Str) (ta : TA) (W : WX) : TS := fun _ σ H => ta σ H fun vs H1 => vs.length = n ∧ (∀ b o, X.H_0 b = some o → H1 b ≠ none) ∧
  ∀ (d p : Addr) (H' : Hp), H1 d = none → (∀ b o, H1 b = some o → H' b = some o) → H' d = some (.xd ((fs.zip vs).reverse ++ [(("told" : Str), V.ref p)])) → W (.ref C) (some d) σ H'
theorem ps_rz {W : WX} {C fI : Addr} {k n : Nat} {fs : List Str} {pos' : Pos} (hc : X.calm = true) (hx : X.ex = []) (tk : Takes X W) (T : OexC X.K C) (hR : Raises X (.ref C)) (iC : PySem.W.findIn X.K (.ref C) "__init__" = some (some (.ref fI))) (tI : PySem.W.typeIn X.K (.ref fI) = some (.type "function"))
    (F1 : FnR X.prog X.w X.K X.mg X.base CX0 k fI (spErr C n fs)) (hn : n ≤ 1000) (hr : Room (k + 1) X.A) (hg : Gl X x) (hm : X.mg x = some (.ref C)) (ha : PA X (e :: es) ta)
    (hdb : (x == ("__debug__" : Str)) = false := by decide) (he : starEach (e :: es) X.env = (false, eval e X.env) :: starEach es X.env := by rfl) (hpl : (backTo pos (starEach es X.env)).any (·.1) = false := by rfl) :
    PS X (.Raise (some (.Call (.Name x p) (e :: es) [] pos)) none pos') (tRz X C n fs ta W) := by
  have ha' : PA X (e :: es) (fun σ H Q => ∃ R : List V → Hp → Prop, ta σ H R ∧ ∀ vs H1, R vs H1 → Q vs H1) :=
    ⟨fun pos pins s σ H Q I ⟨R, h, k⟩ => thn (ha.run pos pins s σ H R I h) fun us s1 ⟨vs, H1, I1, r1, q⟩ => ⟨vs, H1, I1, r1, k vs H1 q⟩⟩
  refine ⟨fun pins s σ H D I h => (ps_raise hc tk (pmk_of hx (pe_err2 T iC tI F1 hn hr hg hm ha' hdb he hpl))).run pins s σ H D I ⟨_, h, fun vs H1 q => ⟨q.1, fun a d t p H' na nd k0 ea ed => ?_⟩⟩⟩
  refine ⟨a, C, d, t, _, rfl, ea, ed, fun o ho => absurd na (q.2.1 a o ho), hR, q.2.2 d p _ nd (fun b o hb => ?_) upd_same⟩
  rw [upd_ne (ne_of_none hb nd), delH_ne (ne_of_none hb na)]
  exact k0 b o hb
end
end Sup

set_option Elab.async false
set_option linter.all false
set_option maxRecDepth 100000
set_option maxHeartbeats 4000000
namespace Vl
open PySem PySem.Spec PyProof.Rows L2
theorem Same.upd {H H1 : Hp} {p : Addr} {o : HO} (k : Same H H1) (hp : H1 p = none) : Same H (L2.upd H1 p o) := fun b u e => (upd_ne (ne_of_none (k b u e) hp)).trans (k b u e)
theorem sm_upd {H : Hp} {p : Addr} {o : HO} (hp : H p = none) : Same H (upd H p o) := Same.upd (Same.refl H) hp
theorem iteC {c : Bool} {A B : Prop} (e : c = true) (h : A) : if c = true then A else B := by rw [if_pos e]; exact h
theorem iteN {c : Bool} {A B : Prop} (e : c = false) (h : B) : if c = true then A else B := by rw [if_neg (by rw [e]; exact Bool.false_ne_true)]; exact h
/-- a def of the top with its promise -/
structure Def (P : Program) (w : World) (K : PySem.W.Frag) (mg : Str → Option Value) (base : Heap) (k : Nat) (x : Str) (f : Addr) (fd : FuncData) (ps : List Str) (sp : Sp) : Prop where
  ok : FnOk P w K mg base CX0 k f fd ps sp
  g : mg x = some (.ref f)
  kp : PySem.W.keepIn K (.ref f) = true
  b : Binds K fd ps []
end Vl

set_option Elab.async false
set_option linter.all false
set_option maxRecDepth 100000
set_option maxHeartbeats 4000000
/-! list(zip(a, b)), a and b two tuples or two lists: a new list of new pairs -/
namespace Lz
open PySem PySem.Spec PyProof.Rows L2 PySem.W
section
variable {prog : Program} {w : World} {A : Around} {E : Value → Shared → Prop} {s : Shared} {z TI TO i1 i2 : Addr} {fp1 fp2 : List Addr} {n1 n2 i : Nat} {P1 P2 : Nat → Value → Prop} {St1 St2 : Nat → Heap → Prop}
theorem held_item {T : Addr} {f : Bool} {oT : Obj} {Q : Value → Shared → Prop} (S : ZipSep2 z TI TO i1 i2 fp1 fp2) (D1 : Draws prog w A i1 fp1 n1 P1 St1) (D2 : Draws prog w A i2 fp2 n2 P2 St2)
    (hz : IsZipHeld s.heap z TI TO T f) (hT : s.heap.get? T = some oT) (hTI : IsTupOf2 s.heap TI (.ref i1) (.ref i2)) (st1 : St1 i s.heap) (st2 : St2 i s.heap) (l1 : i < n1) (l2 : i < n2)
    (hQ : ∀ x1 x2 h' tk, P1 i x1 → P2 i x2 → IsZipHeld h' z TI TO T true → St1 (i + 1) h' → St2 (i + 1) h' → IsTupOf2 h' s.heap.objs.size x1 x2 → h'.objs.size = s.heap.objs.size + 1 →
      (∀ c o, c ≠ z ∧ c ≠ i1 ∧ c ≠ i2 → s.heap.get? c = some o → h'.get? c = some o) → Q (.ref s.heap.objs.size) { s with heap := h', toks := tk }) :
    wpAny (model prog w) A (Builtin.«zip.__next__» ⟨[.ref z], []⟩) (fun fin s' => ∃ v, fin = .done (.ret v) ∧ Q v s') E s := by
  obtain ⟨hp, g, d, tk0, os⟩ := s
  (show wpAny _ _ (field (.ref z) 2 >>= _) _ _ _); refine wpAny_bind (wpAny_field hz rfl (x := .bool false) rfl ?_)
  (show wpAny _ _ (field (.ref z) 3 >>= _) _ _ _); refine wpAny_bind (wpAny_field hz rfl (x := .ref TI) rfl (wpAny_bind (wpAny_seqItems hTI rfl ?_)))
  (show wpAny _ _ (Builtin.SmallTypes.ownedTupleIsFree (.ref z) >>= _) _ _ _); refine wpAny_bind (wpAny_tupleHeld_zip hz hT fun g1 hz1 hs1 => ?_)
  replace hs1 : Heap.SameBut z hp g1 := hs1
  simp only [Bool.false_eq_true, if_false]; refine wpAny_bind ?_
  rw [← Array.forIn_toList]; simp only [List.forIn_cons, List.forIn_nil]
  refine wpAny_bind (wpAny_bind (wpAny_holding ?_)); (show wpAny _ _ (Builtin.SmallTypes.nextOf (.ref i1) >>= _) _ _ ⟨g1, g, d, tk0, os⟩)
  refine wpAny_bind (D1.item i _ _ _ l1 (D1.over st1 hs1 S.zf1) fun x1 p1 tk1 hx1 sn1 hp1 => wpAny_pure (wpAny_pure ?_))
  replace hp1 : Heap.SameBut i1 g1 p1 := hp1
  refine wpAny_bind (wpAny_bind (wpAny_holding ?_)); (show wpAny _ _ (Builtin.SmallTypes.nextOf (.ref i2) >>= _) _ _ ⟨p1, g, d, tk1, os⟩)
  refine wpAny_bind (D2.item i _ _ _ l2 (D2.over (D2.over st2 hs1 S.zf2) hp1 S.sep1_2) fun x2 p2 tk2 hx2 sn2 hp2 => wpAny_pure (wpAny_pure (wpAny_pure ?_)))
  replace hp2 : Heap.SameBut i2 p1 p2 := hp2
  (show wpAny _ _ (newTuple [x1, x2] >>= _) _ _ ⟨p2, g, d, tk2, os⟩); refine wpAny_bind (wpAny_newTuple ?_)
  have hsz : p2.objs.size = hp.objs.size := by rw [hp2.1, hp1.1, hs1.1]
  have hz2 : IsZipHeld p2 z TI TO T true := hp2.extBut _ _ S.zi2 (hp1.extBut _ _ S.zi1 hz1)
  have kk : ∀ c o, c ≠ z ∧ c ≠ i1 ∧ c ≠ i2 → hp.get? c = some o → p2.get? c = some o := fun c o ⟨c1, c2, c3⟩ e => hp2.extBut _ _ c3 (hp1.extBut _ _ c2 (hs1.extBut _ _ c1 e))
  have s1' : St1 (i + 1) p2 := D1.over sn1 hp2 S.sep2_1
  refine wpAny_pure ⟨_, rfl, ?_⟩
  show Q (.ref p2.objs.size) ⟨p2.push { cls := .type "tuple", data := .seq #[x1, x2] }, g, d, tk2, os⟩
  have hpp : IsTupOf2 (p2.push { cls := .type "tuple", data := .seq #[x1, x2] }) p2.objs.size x1 x2 := Heap.get?_push_size _ rfl
  have hz4 : (p2.push { cls := .type "tuple", data := .seq #[x1, x2] }).objs.size = p2.objs.size + 1 := Heap.size_push ..
  rw [hsz] at hpp hz4 ⊢
  exact hQ x1 x2 _ tk2 hx1 hx2 (Heap.get?_push_of_some _ hz2) (D1.frame _ _ _ s1' fun b _ o e => Heap.get?_push_of_some _ e) (D2.frame _ _ _ sn2 fun b _ o e => Heap.get?_push_of_some _ e) hpp hz4 fun c o q e => Heap.get?_push_of_some _ (kk c o q e)
theorem held_end {T : Addr} {f : Bool} {oT : Obj} {Q : Fin → Shared → Prop} (S : ZipSep2 z TI TO i1 i2 fp1 fp2) (D1 : Draws prog w A i1 fp1 n1 P1 St1) (D2 : Draws prog w A i2 fp2 n2 P2 St2)
    (hz : IsZipHeld s.heap z TI TO T f) (hT : s.heap.get? T = some oT) (hTI : IsTupOf2 s.heap TI (.ref i1) (.ref i2)) (st1 : St1 i s.heap) (st2 : St2 i s.heap) (hle1 : i ≤ n1) (hle2 : i ≤ n2) (hend : i = n1 ∨ i = n2)
    (hE : ∀ h' tk e, (∀ c o, c ≠ z ∧ c ≠ i1 ∧ c ≠ i2 → s.heap.get? c = some o → h'.get? c = some o) → (∃ o, h'.get? e = some o ∧ o.cls = .type "StopIteration") → E (.ref e) { s with heap := h', toks := tk }) :
    wpAny (model prog w) A (Builtin.«zip.__next__» ⟨[.ref z], []⟩) Q E s := by
  obtain ⟨hp, g, d, tk0, os⟩ := s
  (show wpAny _ _ (field (.ref z) 2 >>= _) _ _ _); refine wpAny_bind (wpAny_field hz rfl (x := .bool false) rfl ?_)
  (show wpAny _ _ (field (.ref z) 3 >>= _) _ _ _); refine wpAny_bind (wpAny_field hz rfl (x := .ref TI) rfl (wpAny_bind (wpAny_seqItems hTI rfl ?_)))
  (show wpAny _ _ (Builtin.SmallTypes.ownedTupleIsFree (.ref z) >>= _) _ _ _); refine wpAny_bind (wpAny_tupleHeld_zip hz hT fun g1 hz1 hs1 => ?_)
  replace hs1 : Heap.SameBut z hp g1 := hs1
  simp only [Bool.false_eq_true, if_false]; refine wpAny_bind ?_
  rw [← Array.forIn_toList]; simp only [List.forIn_cons, List.forIn_nil]
  refine wpAny_bind (wpAny_bind (wpAny_holding ?_)); (show wpAny _ _ (Builtin.SmallTypes.nextOf (.ref i1) >>= _) _ _ ⟨g1, g, d, tk0, os⟩)
  by_cases h1 : i < n1
  · refine wpAny_bind (D1.item i _ _ _ h1 (D1.over st1 hs1 S.zf1) fun x1 p1 tk1 hx1 sn1 hp1 => wpAny_pure (wpAny_pure ?_))
    replace hp1 : Heap.SameBut i1 g1 p1 := hp1
    have e2 : i = n2 := by omega
    refine wpAny_bind (wpAny_bind (wpAny_holding ?_)); (show wpAny _ _ (Builtin.SmallTypes.nextOf (.ref i2) >>= _) _ _ ⟨p1, g, d, tk1, os⟩)
    refine wpAny_bind (D2.done ⟨p1, g, d, tk1, os⟩ _ _ (by rw [← e2]; exact D2.over (D2.over st2 hs1 S.zf2) hp1 S.sep1_2) fun q e hq he => ?_)
    exact hE q tk1 e (fun c o ⟨c1, c2, c3⟩ x => hq _ _ c3 (hp1.extBut _ _ c2 (hs1.extBut _ _ c1 x))) he
  · have e1 : i = n1 := by omega
    refine wpAny_bind (D1.done ⟨g1, g, d, tk0, os⟩ _ _ (by rw [← e1]; exact D1.over st1 hs1 S.zf1) fun q e hq he => ?_)
    exact hE q tk0 e (fun c o ⟨c1, c2, c3⟩ x => hq _ _ c2 (hs1.extBut _ _ c1 x)) he
theorem pyNext_held_item {T : Addr} {f : Bool} {oT : Obj} {Q : Option Value → Shared → Prop} (S : ZipSep2 z TI TO i1 i2 fp1 fp2) (D1 : Draws prog w A.in1 i1 fp1 n1 P1 St1) (D2 : Draws prog w A.in1 i2 fp2 n2 P2 St2)
    (hz : IsZipHeld s.heap z TI TO T f) (hT : s.heap.get? T = some oT) (hTI : IsTupOf2 s.heap TI (.ref i1) (.ref i2)) (st1 : St1 i s.heap) (st2 : St2 i s.heap) (l1 : i < n1) (l2 : i < n2)
    (hQ : ∀ x1 x2 h' tk, P1 i x1 → P2 i x2 → IsZipHeld h' z TI TO T true → St1 (i + 1) h' → St2 (i + 1) h' → IsTupOf2 h' s.heap.objs.size x1 x2 → h'.objs.size = s.heap.objs.size + 1 →
      (∀ c o, c ≠ z ∧ c ≠ i1 ∧ c ≠ i2 → s.heap.get? c = some o → h'.get? c = some o) → Q (some (.ref s.heap.objs.size)) { s with heap := h', toks := tk }) :
    wpAny (model prog w) A (pyNext (.ref z)) Q E s := by
  have ty : s.TypeIs (.ref z) "zip" := ⟨_, hz, rfl⟩
  unfold pyNext
  exact wpAny_bind (wpAny_attempt (wpAny_callSpecial?_slot (name := Str.ofString "__next__") ty F.slot_zip_next (wpAny_call_entry F.slot_zip_next ty F.entry_zip_next
    (held_item S D1 D2 hz hT hTI st1 st2 l1 l2 fun x1 x2 h' tk a b c d e f g k => wpAny_pure (hQ x1 x2 h' tk a b c d e f g k)) (F.args_zip_next_1 _))))
theorem pyNext_held_end {T : Addr} {f : Bool} {oT : Obj} {Q : Option Value → Shared → Prop} (S : ZipSep2 z TI TO i1 i2 fp1 fp2) (D1 : Draws prog w A.in1 i1 fp1 n1 P1 St1) (D2 : Draws prog w A.in1 i2 fp2 n2 P2 St2)
    (hz : IsZipHeld s.heap z TI TO T f) (hT : s.heap.get? T = some oT) (hTI : IsTupOf2 s.heap TI (.ref i1) (.ref i2)) (st1 : St1 i s.heap) (st2 : St2 i s.heap) (hle1 : i ≤ n1) (hle2 : i ≤ n2) (hend : i = n1 ∨ i = n2)
    (hQ : ∀ h' tk, (∀ c o, c ≠ z ∧ c ≠ i1 ∧ c ≠ i2 → s.heap.get? c = some o → h'.get? c = some o) → Q none { s with heap := h', toks := tk }) : wpAny (model prog w) A (pyNext (.ref z)) Q E s := by
  have ty : s.TypeIs (.ref z) "zip" := ⟨_, hz, rfl⟩
  unfold pyNext
  refine wpAny_bind (wpAny_attempt (wpAny_callSpecial?_slot (name := Str.ofString "__next__") ty F.slot_zip_next (wpAny_call_entry F.slot_zip_next ty F.entry_zip_next
    (held_end S D1 D2 hz hT hTI st1 st2 hle1 hle2 hend fun h' tk e hk he => ?_) (F.args_zip_next_1 _))))
  obtain ⟨o, ho, hc⟩ := he
  exact wpAny_bind (wpAny_isInstance (T := "StopIteration") (b := true) ⟨o, ho, hc⟩ isSubtype_stop (wpAny_pure (hQ _ _ hk)))

/-- the zip at z behind i turns whose pairs are all held; S the list that is filled -/
def ZSt (z TI TO i1 i2 S : Addr) (St1 St2 : Nat → Heap → Prop) (i : Nat) (h : Heap) : Prop := IsTupOf2 h TI (.ref i1) (.ref i2) ∧ St1 i h ∧ St2 i h ∧
  ((IsZip h z TI TO .none ∧ ∃ a b, IsTupOf2 h TO a b) ∨ ∃ T f oT, IsZipHeld h z TI TO T f ∧ h.get? T = some oT ∧ T ≠ z ∧ T ≠ i1 ∧ T ≠ i2 ∧ T ≠ S)
structure Sep (z TI TO i1 i2 S : Addr) (fp1 fp2 : List Addr) : Prop where
  z : z ≠ S
  TI : TI ≠ S
  TO : TO ≠ S
  f1 : S ∉ fp1
  f2 : S ∉ fp2
theorem ZSt.keep {S : Addr} {h h' : Heap} (D1 : Draws prog w A i1 fp1 n1 P1 St1) (D2 : Draws prog w A i2 fp2 n2 P2 St2) (sp : Sep z TI TO i1 i2 S fp1 fp2) (x : ZSt z TI TO i1 i2 S St1 St2 i h) (hk : ∀ b o, b ≠ S → h.get? b = some o → h'.get? b = some o) : ZSt z TI TO i1 i2 S St1 St2 i h' := by
  obtain ⟨a1, a2, a3, a4⟩ := x
  refine ⟨hk _ _ sp.TI a1, D1.frame _ _ _ a2 fun b hb o e => hk b o (fun q => sp.f1 (q ▸ hb)) e, D2.frame _ _ _ a3 fun b hb o e => hk b o (fun q => sp.f2 (q ▸ hb)) e, ?_⟩
  rcases a4 with ⟨hz, a, b, hO⟩ | ⟨T, f, oT, hz, hT, r1, r2, r3, r4⟩
  · exact .inl ⟨hk _ _ sp.z hz, a, b, hk _ _ sp.TO hO⟩
  · exact .inr ⟨T, f, oT, hk _ _ sp.z hz, hk _ _ r4 hT, r1, r2, r3, r4⟩
theorem ZSt.item {S : Addr} {Q : Option Value → Shared → Prop} (sz : ZipSep2 z TI TO i1 i2 fp1 fp2) (D1 : Draws prog w A.in1 i1 fp1 n1 P1 St1) (D2 : Draws prog w A.in1 i2 fp2 n2 P2 St2) (x : ZSt z TI TO i1 i2 S St1 St2 i s.heap) (hS : S < s.heap.objs.size) (l1 : i < n1) (l2 : i < n2)
    (hQ : ∀ x1 x2 h' tk, P1 i x1 → P2 i x2 → ZSt z TI TO i1 i2 S St1 St2 (i + 1) h' → IsTupOf2 h' s.heap.objs.size x1 x2 → h'.objs.size = s.heap.objs.size + 1 →
      (∀ c o, c ≠ z ∧ c ≠ i1 ∧ c ≠ i2 ∧ c ≠ TO → s.heap.get? c = some o → h'.get? c = some o) → Q (some (.ref s.heap.objs.size)) { s with heap := h', toks := tk }) :
    wpAny (model prog w) A (pyNext (.ref z)) Q E s := by
  obtain ⟨a1, a2, a3, a4⟩ := x
  have lt : ∀ {c o}, s.heap.get? c = some o → s.heap.objs.size ≠ c := fun e => Nat.ne_of_gt (Heap.lt_size e)
  have m1 : s.heap.objs.size ≠ i1 := let ⟨_, e⟩ := D1.live _ _ a2; lt e
  have m2 : s.heap.objs.size ≠ i2 := let ⟨_, e⟩ := D2.live _ _ a3; lt e
  rcases a4 with ⟨hz, a, b, hO⟩ | ⟨T, f, oT, hz, hT, r1, r2, r3, r4⟩
  · refine wpAny_pyNext_zipD2_item sz D1 D2 hz a1 hO a2 a3 l1 l2 fun x1 x2 h' tk p1 p2 hz' hO' t1 t2 hN sN hk => hQ x1 x2 h' tk p1 p2 ⟨hk _ _ sz.TIz sz.TITO sz.TIi1 sz.TIi2 a1, t1, t2, .inr ⟨_, false, _, hz', hN, lt hz, m1, m2, Nat.ne_of_gt hS⟩⟩ hN sN fun c o ⟨c1, c2, c3, c4⟩ e => hk c o c1 c4 c2 c3 e
  · refine pyNext_held_item sz D1 D2 hz hT a1 a2 a3 l1 l2 fun x1 x2 h' tk p1 p2 hz' t1 t2 hN sN hk => hQ x1 x2 h' tk p1 p2 ⟨hk _ _ ⟨sz.TIz, sz.TIi1, sz.TIi2⟩ a1, t1, t2, .inr ⟨T, true, oT, hz', hk _ _ ⟨r1, r2, r3⟩ hT, r1, r2, r3, r4⟩⟩ hN sN fun c o ⟨c1, c2, c3, _⟩ e => hk c o ⟨c1, c2, c3⟩ e
theorem ZSt.done {S : Addr} {Q : Option Value → Shared → Prop} (sz : ZipSep2 z TI TO i1 i2 fp1 fp2) (D1 : Draws prog w A.in1 i1 fp1 n1 P1 St1) (D2 : Draws prog w A.in1 i2 fp2 n2 P2 St2) (x : ZSt z TI TO i1 i2 S St1 St2 i s.heap) (hle1 : i ≤ n1) (hle2 : i ≤ n2) (hend : i = n1 ∨ i = n2)
    (hQ : ∀ h' tk, (∀ c o, c ≠ z ∧ c ≠ i1 ∧ c ≠ i2 ∧ c ≠ TO → s.heap.get? c = some o → h'.get? c = some o) → Q none { s with heap := h', toks := tk }) : wpAny (model prog w) A (pyNext (.ref z)) Q E s := by
  obtain ⟨a1, a2, a3, a4⟩ := x
  rcases a4 with ⟨hz, a, b, hO⟩ | ⟨T, f, oT, hz, hT, r1, r2, r3, r4⟩
  · exact wpAny_pyNext_zipD2_end sz D1 D2 hz a1 hO a2 a3 hle1 hle2 hend fun h' tk hk => hQ h' tk fun c o ⟨c1, c2, c3, c4⟩ e => hk c o c1 c4 c2 c3 e
  · exact pyNext_held_end sz D1 D2 hz hT a1 a2 a3 hle1 hle2 hend fun h' tk hk => hQ h' tk fun c o ⟨c1, c2, c3, _⟩ e => hk c o ⟨c1, c2, c3⟩ e
end
/-- the pairs that were made, at as, all above lo -/
structure Made (P1 P2 : Nat → Value → Prop) (lo : Addr) (h : Heap) (as : List Addr) : Prop where
  rise : as.Pairwise (· < ·)
  above : ∀ a ∈ as, lo < a
  pairs : ∀ (j : Nat) (a : Addr), as[j]? = some a → ∃ x y, P1 j x ∧ P2 j y ∧ IsTupOf2 h a x y
theorem Made.there {P1 P2 : Nat → Value → Prop} {lo : Addr} {h : Heap} {as : List Addr} (g : Made P1 P2 lo h as) {a : Addr} (ha : a ∈ as) : a < h.objs.size := by
  obtain ⟨j, hj⟩ := List.mem_iff_getElem?.mp ha
  obtain ⟨_, _, _, _, e⟩ := g.pairs j a hj
  exact Heap.lt_size e
section
variable {prog : Program} {w : World} {A : Around} {s : Shared} {R : Result → Shared → Prop} {z TI TO i1 i2 S : Addr} {fp1 fp2 : List Addr} {n1 n2 : Nat} {P1 P2 : Nat → Value → Prop} {St1 St2 : Nat → Heap → Prop}
theorem zl_loop {n : Nat} (en : n = min n1 n2) (sz : ZipSep2 z TI TO i1 i2 fp1 fp2) (sp : Sep z TI TO i1 i2 S fp1 fp2) (D1 : Draws prog w A.in1.in1 i1 fp1 n1 P1 St1) (D2 : Draws prog w A.in1.in1 i2 fp2 n2 P2 St2) (lz : z < S) (lT : TO < S) (li1 : i1 < S) (li2 : i2 < S) (hn : n ≤ sizeLine) (res : Value) {h₁ : Heap}
    (hR : ∀ h' tk acc c as, (∀ b o, b ≠ S ∧ b ≠ z ∧ b ≠ i1 ∧ b ≠ i2 ∧ b ≠ TO → h₁.get? b = some o → h'.get? b = some o) → h'.get? S = some { cls := .type "list", dict := none, data := .seq acc c, slots := #[] } → as.length = n → Made P1 P2 S h' as →
      acc.toList = as.map Value.ref → R (.ok (.ret res)) { s with heap := h', toks := tk }) :
    ∀ (k i : Nat) (h : Heap) (tk c : Nat) (acc : Array Value) (as : List Addr), n - i = k → i ≤ n → ZSt z TI TO i1 i2 S St1 St2 i h → (∀ b o, b ≠ S ∧ b ≠ z ∧ b ≠ i1 ∧ b ≠ i2 ∧ b ≠ TO → h₁.get? b = some o → h.get? b = some o) →
      h.get? S = some { cls := .type "list", dict := none, data := .seq acc c, slots := #[] } → acc.toList = as.map Value.ref → as.length = i → Made P1 P2 S h as →
      codeAny (model prog w) A (.builtin "list.extend.loop" ⟨[.ref S, .ref z, res], []⟩) R { s with heap := h, toks := tk } := by
  have n1' : S ≠ z ∧ S ≠ i1 ∧ S ≠ i2 ∧ S ≠ TO := ⟨Nat.ne_of_gt lz, Nat.ne_of_gt li1, Nat.ne_of_gt li2, Nat.ne_of_gt lT⟩
  have hi : ∀ a, S < a → a ≠ z ∧ a ≠ i1 ∧ a ≠ i2 ∧ a ≠ TO := fun a ha => ⟨Nat.ne_of_gt (Nat.lt_trans lz ha), Nat.ne_of_gt (Nat.lt_trans li1 ha), Nat.ne_of_gt (Nat.lt_trans li2 ha), Nat.ne_of_gt (Nat.lt_trans lT ha)⟩
  intro k
  induction k with
  | zero =>
    intro i h tk c acc as hk hin hst hkeep hS hacc hal hG
    have e : i = n := by omega
    refine codeAny_builtin PySem.F.entry_extend_loop ?_
    rw [Around.under_plainId PySem.F.plain_extend_loop _]; (show wpAny _ A.in1 (pyNext (.ref z) >>= _) _ _ _)
    refine wpAny_bind (ZSt.done (s := { s with heap := h, toks := tk }) (A := A.in1) sz D1 D2 hst (by omega) (by omega) (by omega) fun h' tk' hk' => wpAny_pure (hR h' tk' acc c as (fun b o ⟨q1, q2⟩ e => hk' b o q2 (hkeep b o ⟨q1, q2⟩ e)) (hk' S _ n1' hS) (by omega) ⟨hG.rise, hG.above, fun j a hj => ?_⟩ hacc))
    obtain ⟨x, y, e1, e2, e3⟩ := hG.pairs j a hj
    exact ⟨x, y, e1, e2, hk' a _ (hi a (hG.above a (List.mem_of_getElem? hj))) e3⟩
  | succ k ih =>
    intro i h tk c acc as hk hin hst hkeep hS hacc hal hG
    have lt : i < n := by omega
    have hsz : acc.size = i := by rw [← Array.length_toList, hacc, List.length_map, hal]
    refine codeAny_builtin PySem.F.entry_extend_loop ?_
    rw [Around.under_plainId PySem.F.plain_extend_loop _]; (show wpAny _ A.in1 (pyNext (.ref z) >>= _) _ _ _)
    refine wpAny_bind (ZSt.item (s := { s with heap := h, toks := tk }) (A := A.in1) sz D1 D2 hst (Heap.lt_size hS) (by omega) (by omega) fun x1 x2 h' tk' p1 p2 hst' hN sN hkp => ?_)
    dsimp only at hN sN hkp ⊢
    have hS' := hkp S _ n1' hS
    have up : ∀ b o, b ≠ S → h'.get? b = some o → (h'.update S (Obj.mapSeq (·.push (Value.ref h.objs.size)))).get? b = some o := fun b o hb e => (Heap.get?_update_other _ _ (Ne.symm hb)).trans e
    have hSl : S < h.objs.size := Heap.lt_size hS
    (show wpAny _ A.in1 (updateSeq S (·.push (Value.ref h.objs.size)) >>= _) _ _ _); refine wpAny_bind ?_
    refine wpAny_updateSeq hS' rfl (wpAny_pure ⟨plainId_quiet PySem.F.plain_extend_loop _, ih (i + 1) _ tk' _ (acc.push (Value.ref h.objs.size)) (as ++ [h.objs.size]) (by omega) lt (hst'.keep D1 D2 sp up)
      (fun b o q e => up b o q.1 (hkp b o q.2 (hkeep b o q e))) (Heap.get?_update_self _ hS' rfl) (by rw [Array.toList_push, hacc, List.map_append]; rfl) (by rw [List.length_append, hal]; rfl) ⟨?_, ?_, ?_⟩⟩) (by rw [hsz]; omega) (by show (acc.push (Value.ref h.objs.size)).size ≤ sizeLine + 1; rw [Array.size_push, hsz]; omega)
    · refine List.pairwise_append.mpr ⟨hG.rise, List.pairwise_singleton _ _, fun a ha b hb => ?_⟩
      rw [List.mem_singleton.mp hb]; exact hG.there ha
    · intro a ha
      rcases List.mem_append.mp ha with ha | ha
      · exact hG.above a ha
      · rw [List.mem_singleton.mp ha]; exact hSl
    · intro j b hj
      rcases Nat.lt_trichotomy j as.length with q | q | q
      · rw [List.getElem?_append_left q] at hj
        obtain ⟨x, y, e1, e2, e3⟩ := hG.pairs j b hj
        have hb := hG.above b (List.mem_of_getElem? hj)
        exact ⟨x, y, e1, e2, up b _ (Nat.ne_of_gt hb) (hkp b _ (hi b hb) e3)⟩
      · subst q
        have hb : h.objs.size = b := by simpa using hj
        subst hb
        exact ⟨x1, x2, by rw [hal]; exact p1, by rw [hal]; exact p2, up _ _ (Nat.ne_of_gt hSl) hN⟩
      · have no : (as ++ [h.objs.size])[j]? = none := List.getElem?_eq_none (by rw [List.length_append, List.length_singleton]; omega)
        rw [no] at hj; cases hj
end
end Lz

set_option Elab.async false
set_option linter.all false
set_option maxRecDepth 100000
set_option maxHeartbeats 4000000
namespace Lz
open PySem PySem.Spec PyProof.Rows L2 PySem.W
theorem zip_no_len : typeLookup (.type "zip") "__len__" = pure none := am_miss_of_fast (by decide +kernel)
theorem zip_no_hint : typeLookup (.type "zip") "__length_hint__" = pure none := am_miss_of_fast (by decide +kernel)
section
variable {prog : Program} {w : World} {A : Around} {E : Value → Shared → Prop} {s : Shared} {R : Result → Shared → Prop} {z TI TO i1 i2 S : Addr} {fp1 fp2 : List Addr} {n n1 n2 : Nat} {P1 P2 : Nat → Value → Prop} {St1 St2 : Nat → Heap → Prop}
theorem zl_hint (hT : s.TypeIs (.ref z) "zip") {Q : Bool → Shared → Prop} (h : Q true s) : wpAny (model prog w) A (Builtin.List.listLengthHint (.ref z)) Q E s := by
  unfold Builtin.List.listLengthHint
  refine wpAny_bind (wpAny_specialOf hT zip_no_len ?_)
  exact wpAny_bind (wpAny_specialOf hT zip_no_hint (wpAny_pure h))
/-- what a list that is filled by the zip asks and gives -/
theorem zl_extend (en : n = min n1 n2) (sz : ZipSep2 z TI TO i1 i2 fp1 fp2) (sp : Sep z TI TO i1 i2 S fp1 fp2) (D1 : Draws prog w A.in1.in1 i1 fp1 n1 P1 St1) (D2 : Draws prog w A.in1.in1 i2 fp2 n2 P2 St2) (lz : z < S) (lT : TO < S) (li1 : i1 < S) (li2 : i2 < S) (hn : n ≤ sizeLine) (res : Value) (c₀ : Nat)
    (hz : IsZip s.heap z TI TO .none) (hst : ZSt z TI TO i1 i2 S St1 St2 0 s.heap) (hS : s.heap.get? S = some { cls := .type "list", data := .seq #[] c₀ })
    (hR : ∀ h' tk acc c as, (∀ b o, b ≠ S ∧ b ≠ z ∧ b ≠ i1 ∧ b ≠ i2 ∧ b ≠ TO → s.heap.get? b = some o → h'.get? b = some o) → h'.get? S = some { cls := .type "list", dict := none, data := .seq acc c, slots := #[] } → as.length = n → Made P1 P2 S h' as →
      acc.toList = as.map Value.ref → R (.ok (.ret res)) { s with heap := h', toks := tk }) :
    wpAny (model prog w) A.in1 (Builtin.List.listExtendWith (.ref S) (.ref z) res)
      (fun fin s' => match fin with | .done f => R (.ok f) s' | .again c' => c'.quiet = true ∧ codeAny (model prog w) A c' R s') (fun e s' => R (.error e) s') s := by
  have nSz : S ≠ z := Nat.ne_of_gt lz
  have key : ∀ (h : Heap) (c₁ tk : Nat), (∀ b o, b ≠ S → s.heap.get? b = some o → h.get? b = some o) → h.get? S = some { cls := .type "list", data := .seq #[] c₁ } →
      codeAny (model prog w) A (.builtin "list.extend.loop" ⟨[.ref S, .ref z, res], []⟩) R { s with heap := h, toks := tk } := fun h c₁ tk hk hS₁ =>
    zl_loop (s := s) (h₁ := s.heap) en sz sp D1 D2 lz lT li1 li2 hn res hR n 0 h tk c₁ #[] [] (Nat.sub_zero _) (Nat.zero_le _) (hst.keep D1 D2 sp hk) (fun b o q e => hk b o q.1 e) hS₁ rfl rfl ⟨List.Pairwise.nil, (fun _ ha => nomatch ha), (fun j a hj => by simp at hj)⟩
  unfold Builtin.List.listExtendWith
  have hT : s.TypeIs (.ref z) "zip" := ⟨_, hz, rfl⟩
  refine wpAny_bind (wpAny_typeOf (T := "zip") hT ?_)
  have q1 : Builtin.List.listSameRef (.ref S) (.ref z) = false := by simp [Builtin.List.listSameRef, nSz]
  have q2 : (Value.type "zip" == Value.type "list") = false := by decide
  have q3 : (Value.type "zip" == Value.type "tuple") = false := by decide
  simp only [q1, q2, q3, Bool.or_false, Bool.false_eq_true, if_false]
  refine wpAny_bind (wpAny_pyIter_zip hz ?_)
  refine wpAny_bind (wpAny_holding (zl_hint hT ?_))
  refine wpAny_ite_split (fun _ => ?_) (fun _ => wpAny_pure ⟨plainId_quiet PySem.F.plain_extend_loop _, key _ c₀ _ (fun b o _ e => e) hS⟩)
  refine wpAny_bind (wpAny_rule (wpAny_bind ?_)); (show wpAny _ _ (updateSeq S (·.push .none) >>= fun _ => updateSeq S (·.pop)) _ _ _)
  refine wpAny_bind (wpAny_updateSeq hS rfl ?_)
  have hS₂ := Heap.get?_update_self (Obj.mapSeq (·.push Value.none)) hS rfl
  refine wpAny_updateSeq (hz := by seq_fits) hS₂ rfl ?_
  have hS₃ := Heap.get?_update_self (Obj.mapSeq (·.pop)) hS₂ rfl
  exact wpAny_pure ⟨plainId_quiet PySem.F.plain_extend_loop _, key _ _ _ (fun b o hb e => (Heap.get?_update_other _ _ (Ne.symm hb)).trans ((Heap.get?_update_other _ _ (Ne.symm hb)).trans e)) hS₃⟩
theorem zl_init (en : n = min n1 n2) (sz : ZipSep2 z TI TO i1 i2 fp1 fp2) (sp : Sep z TI TO i1 i2 S fp1 fp2) (D1 : Draws prog w A.in1.in1 i1 fp1 n1 P1 St1) (D2 : Draws prog w A.in1.in1 i2 fp2 n2 P2 St2) (lz : z < S) (lT : TO < S) (li1 : i1 < S) (li2 : i2 < S) (hn : n ≤ sizeLine)
    (hz : IsZip s.heap z TI TO .none) (hst : ZSt z TI TO i1 i2 S St1 St2 0 s.heap) (hS : s.heap.get? S = some { cls := .type "list", data := .seq #[] })
    (hR : ∀ h' tk acc c as, (∀ b o, b ≠ S ∧ b ≠ z ∧ b ≠ i1 ∧ b ≠ i2 ∧ b ≠ TO → s.heap.get? b = some o → h'.get? b = some o) → h'.get? S = some { cls := .type "list", dict := none, data := .seq acc c, slots := #[] } → as.length = n → Made P1 P2 S h' as →
      acc.toList = as.map Value.ref → R (.ok (.ret .none)) { s with heap := h', toks := tk }) :
    wpAny (model prog w) A.in1 (Builtin.«list.__init__» ⟨[.ref S, .ref z], []⟩)
      (fun fin s' => match fin with | .done f => R (.ok f) s' | .again c' => c'.quiet = true ∧ codeAny (model prog w) A c' R s') (fun e s' => R (.error e) s') s := by
  show wpAny _ _ (do let old ← Builtin.List.listItems (.ref S); Builtin.List.listUpdate (.ref S) (fun _ => #[]); letGo old.toList.reverse; Builtin.List.listExtendWith (.ref S) (.ref z) .none) _ _ s
  refine wpAny_bind ?_
  unfold Builtin.List.listItems
  refine wpAny_bind (wpAny_seqItems hS rfl (wpAny_pure ?_)); (show wpAny _ _ (updateSeq S (fun _ => #[]) >>= fun _ => letGo (#[] : Array Value).toList.reverse >>= fun _ => Builtin.List.listExtendWith (.ref S) (.ref z) .none) _ _ s)
  refine wpAny_bind (wpAny_updateSeq hS rfl ?_)
  have hS₂ := Heap.get?_update_self (Obj.mapSeq (fun _ => (#[] : Array Value))) hS rfl
  have oth : ∀ b o, b ≠ S → s.heap.get? b = some o → (s.heap.update S (Obj.mapSeq (fun _ => (#[] : Array Value)))).get? b = some o := fun b o hb e => (Heap.get?_update_other _ _ (Ne.symm hb)).trans e
  refine wpAny_bind (wpAny_letGo ?_)
  exact zl_extend en sz sp D1 D2 lz lT li1 li2 hn .none _ (oth _ _ sp.z hz) (hst.keep D1 D2 sp oth) hS₂ fun h' tk acc c as hk hS' hl hG hacc => hR h' tk acc c as (fun b o q e => hk b o q (oth b o q.1 e)) hS' hl hG hacc
theorem zl_call {Q : Value → Shared → Prop} (en : n = min n1 n2) (sz : ZipSep2 z TI TO i1 i2 fp1 fp2) (D1 : Draws prog w A.in1.in1.in1 i1 fp1 n1 P1 St1) (D2 : Draws prog w A.in1.in1.in1 i2 fp2 n2 P2 St2) (hn : n ≤ sizeLine) (f1 : ∀ b ∈ fp1, b < s.heap.objs.size) (f2 : ∀ b ∈ fp2, b < s.heap.objs.size)
    (hz : IsZip s.heap z TI TO .none) (hTI : IsTupOf2 s.heap TI (.ref i1) (.ref i2)) (hTO : ∃ a b, IsTupOf2 s.heap TO a b) (st1 : St1 0 s.heap) (st2 : St2 0 s.heap)
    (hQ : ∀ h' tk acc c as, (∀ b o, b ≠ z ∧ b ≠ i1 ∧ b ≠ i2 ∧ b ≠ TO → s.heap.get? b = some o → h'.get? b = some o) → h'.get? s.heap.objs.size = some { cls := .type "list", dict := none, data := .seq acc c, slots := #[] } → as.length = n → Made P1 P2 s.heap.objs.size h' as →
      acc.toList = as.map Value.ref → Q (.ref s.heap.objs.size) { s with heap := h', toks := tk }) :
    wpAny (model prog w) A (call (.type "list") [.ref z]) Q E s := by
  refine callType_codes (Q₁ := fun obj s₁ => obj = .ref s.heap.objs.size ∧ s₁ = { s with heap := s.heap.push { cls := .type "list", data := .seq #[] } }) PySem.F.called_list (PySem.F.typeCall_list_1 _) PySem.F.entry_list_init (code_list_new _ ⟨rfl, rfl⟩) fun obj s₁ h₁ => ?_
  obtain ⟨rfl, rfl⟩ := h₁
  have hS : (s.heap.push { cls := .type "list", data := .seq #[] }).get? s.heap.objs.size = some { cls := .type "list", data := .seq #[] } := Heap.get?_push_size _ rfl
  have up : ∀ b o, s.heap.get? b = some o → (s.heap.push { cls := .type "list", data := .seq #[] }).get? b = some o := fun b o e => Heap.get?_push_of_some _ e
  obtain ⟨a, b, hO⟩ := hTO
  have l1 : i1 < s.heap.objs.size := f1 _ sz.mem1
  have l2 : i2 < s.heap.objs.size := f2 _ sz.mem2
  refine ⟨⟨_, hS, rfl⟩, PySem.F.args_list_init_2 _ _, zl_init (A := A.in1) en sz ⟨Nat.ne_of_lt (Heap.lt_size hz), Nat.ne_of_lt (Heap.lt_size hTI), Nat.ne_of_lt (Heap.lt_size hO), fun h => Nat.lt_irrefl _ (f1 _ h), fun h => Nat.lt_irrefl _ (f2 _ h)⟩ D1 D2 (Heap.lt_size hz) (Heap.lt_size hO) l1 l2 hn (up _ _ hz)
    ⟨up _ _ hTI, D1.frame _ _ _ st1 fun b _ o e => up b o e, D2.frame _ _ _ st2 fun b _ o e => up b o e, .inl ⟨up _ _ hz, a, b, up _ _ hO⟩⟩ hS fun h' tk acc c as hk hS' hl hG hacc => ?_⟩
  exact ⟨rfl, hQ h' tk acc c as (fun b o q e => hk b o ⟨Nat.ne_of_lt (Heap.lt_size e), q⟩ (up b o e)) hS' hl hG hacc⟩
end
end Lz

set_option Elab.async false
set_option linter.all false
set_option maxRecDepth 100000
set_option maxHeartbeats 4000000
namespace Lz
open PySem PySem.Spec PyProof.Rows L2 PySem.W
/-- pairs tracked at their addresses -/
def putP : Hp → List Addr → List (V × V) → Hp
  | H, a :: as, p :: ps => putP (upd H a (.tup [p.1, p.2])) as ps
  | H, _, _ => H
theorem putP_off {b : Addr} : ∀ (as : List Addr) (ps : List (V × V)) (H : Hp), b ∉ as → putP H as ps b = H b
  | [], _, _, _ => rfl
  | _ :: _, [], _, _ => rfl
  | a :: as, p :: ps, H, h => by
    show putP (upd H a (.tup [p.1, p.2])) as ps b = H b
    rw [putP_off as ps _ (fun q => h (List.mem_cons_of_mem _ q)), upd_ne (fun q => h (by rw [q]; exact List.mem_cons_self))]
theorem putP_at : ∀ (as : List Addr) (ps : List (V × V)) (H : Hp), as.Nodup → ∀ (j : Nat) (t : Addr) (p : V × V), as[j]? = some t → ps[j]? = some p → putP H as ps t = some (.tup [p.1, p.2])
  | [], _, _, _, j, t, p, h, _ => by cases h
  | _ :: _, [], _, _, j, t, p, _, h => by cases h
  | a :: as, q :: ps, H, nd, 0, t, p, h, g => by
    have nd' := List.nodup_cons.mp nd
    cases h
    cases g
    show putP (upd H a (.tup [q.1, q.2])) as ps a = _
    rw [putP_off as ps _ nd'.1, upd_same]
  | a :: as, q :: ps, H, nd, j + 1, t, p, h, g => putP_at as ps _ (List.nodup_cons.mp nd).2 j t p h g
theorem vals_as : ∀ as : List Addr, Vals (as.map V.ref) (as.map Value.ref)
  | [] => .nil
  | _ :: as => .cons rfl (vals_as as)
/-- what list(zip(a, b)) leaves -/
def Zipped (H : Hp) (xs ys : List V) (p : Addr) (ts : List Addr) (H' : Hp) : Prop :=
  Same H H' ∧ H p = none ∧ (∀ t ∈ ts, H t = none) ∧ p ∉ ts ∧ H' p = some (.lst (ts.map V.ref)) ∧ ts.length = xs.length ∧ ∀ (j : Nat) (t : Addr), ts[j]? = some t → ∃ x y, xs[j]? = some x ∧ ys[j]? = some y ∧ H' t = some (.tup [x, y])
def tListZip (K : PySem.W.Frag) (ta : TA) : TE := fun σ H Q => ta σ H fun vs H1 => ∃ a b xs ys, vs = [.ref a, .ref b] ∧ ((SqT K H1 a xs ∧ SqT K H1 b ys) ∨ (SqL K H1 a xs ∧ SqL K H1 b ys)) ∧ xs.length = ys.length ∧
  ∀ H' p ts, Zipped H1 xs ys p ts H' → Q (.ref p) H'
section
variable {X : Cx} {pins : List (Addr × Obj)} {σ : L2.St} {H : Hp} {s : Shared}
theorem zips_laid {S : Addr} {h' : Heap} {tk : Nat} {xs ys : List V} {us ws : List Value} {acc : Array Value} {c : Nat} {as : List Addr} (I : Inv X pins σ H s) (hS0 : s.heap.objs.size ≤ S) (hz : xs.length ≤ sizeLine) (hxy : xs.length = ys.length) (r1 : Vals xs us) (r2 : Vals ys ws)
    (hk : ∀ b o, s.heap.get? b = some o → h'.get? b = some o) (hS : h'.get? S = some { cls := .type "list", dict := none, data := .seq acc c, slots := #[] }) (hl : as.length = xs.length) (hG : Made (fun i v => us.toArray[i]? = some v) (fun i v => ws.toArray[i]? = some v) S h' as) (hacc : acc.toList = as.map Value.ref) :
    ∃ H', Zipped H xs ys S as H' ∧ Inv X pins σ H' { s with heap := h', toks := tk } := by
  have nS : S ∉ as := fun q => Nat.lt_irrefl _ (hG.above _ q)
  have nd : as.Nodup := List.Pairwise.imp (fun {a b} (h : a < b) => Nat.ne_of_lt h) hG.rise
  have new : ∀ t ∈ as, H t = none := fun t ht => I.hok.fresh (Nat.le_trans hS0 (Nat.le_of_lt (hG.above t ht)))
  have newS : H S = none := I.hok.fresh hS0
  have lp : (xs.zip ys).length = xs.length := by rw [List.length_zip]; omega
  have off : ∀ b, b ∉ as → b ≠ S → putP (upd H S (.lst (as.map V.ref))) as (xs.zip ys) b = H b := fun b h1 h2 => by rw [putP_off as _ _ h1, upd_ne h2]
  have low : ∀ b o, s.heap.get? b = some o → b ∉ as ∧ b ≠ S := fun b o e => ⟨fun q => absurd (Heap.lt_size e) (Nat.not_lt.mpr (Nat.le_trans hS0 (Nat.le_of_lt (hG.above b q)))), Nat.ne_of_lt (Nat.lt_of_lt_of_le (Heap.lt_size e) hS0)⟩
  have kp : ∀ b u, H b = some u → (putP (upd H S (.lst (as.map V.ref))) as (xs.zip ys)) b = some u := fun b u e => by
    rw [off b (fun q => by rw [new b q] at e; cases e) (fun q => by rw [q, newS] at e; cases e)]
    exact e
  have eS : putP (upd H S (.lst (as.map V.ref))) as (xs.zip ys) S = some (.lst (as.map V.ref)) := by rw [putP_off as _ _ nS, upd_same]
  have atj : ∀ (j : Nat) (t : Addr), as[j]? = some t → ∃ x y, xs[j]? = some x ∧ ys[j]? = some y ∧ putP (upd H S (.lst (as.map V.ref))) as (xs.zip ys) t = some (.tup [x, y]) := fun j t e => by
    have hj : j < as.length := (List.getElem?_eq_some_iff.mp e).1
    have h1 : xs[j]? = some (xs[j]'(by omega)) := List.getElem?_eq_getElem _
    have h2 : ys[j]? = some (ys[j]'(by omega)) := List.getElem?_eq_getElem _
    exact ⟨_, _, h1, h2, putP_at as _ _ nd j t (_, _) e (List.getElem?_zip_eq_some.mpr ⟨h1, h2⟩)⟩
  refine ⟨putP (upd H S (.lst (as.map V.ref))) as (xs.zip ys), ⟨kp, newS, new, nS, eS, hl, atj⟩, ?_⟩
  refine I.call' (ch := []) rfl ⟨fun b o q _ _ _ => hk b o q, fun b o q _ _ _ => ⟨o.slots, hk b o q⟩, fun b o q n _ => ?_, fun b o q _ => ⟨o, hk b o q⟩, fun b xs q => kp b _ q, fun b o u q => kp b _ q, fun b ps q => ⟨#[], by rw [kp b _ q]; simp⟩⟩ (fun b u q => ?_) I.bare fun b q => by simp at q
  · obtain ⟨z1, z2⟩ := low b o q
    rw [off b z1 z2]
    exact n
  · by_cases hb : b ∈ as
    · obtain ⟨j, hj⟩ := List.mem_iff_getElem?.mp hb
      obtain ⟨x, y, e1, e2, e3⟩ := atj j b hj
      rw [e3] at q
      cases q
      obtain ⟨u, v, f1, f2, f3⟩ := hG.pairs j b hj
      obtain ⟨u', g1, g2⟩ := r1.get e1
      obtain ⟨v', k1, k2⟩ := r2.get e2
      have : u = u' := by
        have : us[j]? = some u := by simpa using f1
        rw [g1] at this
        exact (Option.some.inj this).symm
      subst this
      have : v = v' := by
        have : ws[j]? = some v := by simpa using f2
        rw [k1] at this
        exact (Option.some.inj this).symm
      subst this
      exact ⟨by show 2 ≤ sizeLine; decide, [u, v], .cons g2 (.cons k2 .nil), ⟨_, f3, rfl, _, rfl⟩⟩
    · by_cases hb2 : b = S
      · rw [hb2] at q ⊢
        rw [eS] at q
        cases q
        refine ⟨by rw [List.length_map]; omega, acc.toList, c, by rw [hacc]; exact vals_as as, ?_⟩
        rw [Array.toArray_toList]
        exact hS
      · rw [off b hb hb2] at q
        exact (I.hok b u q).stay (fun d v _ y => hk d v y) (fun d y => kp d _ y) fun d xs y => kp d _ y
variable {e e2 : Expr} {ta : TA} {p zp cpos pos : Pos}
theorem pe_listZip (hc : X.calm = true) (ha : PA X [e, e2] ta) (hg : Gl X "list") (hm : X.mg "list" = none) (hgz : Gl X "zip") (hmz : X.mg "zip" = none)
    (hs : starEach [.Call (.Name "zip" zp) [e, e2] [] cpos] X.env = (false, eval (.Call (.Name "zip" zp) [e, e2] [] cpos) X.env) :: starEach [] X.env := by rfl)
    (hs2 : starEach [e, e2] X.env = (false, eval e X.env) :: starEach [e2] X.env := by rfl) (hpl : (backTo cpos (starEach [e2] X.env)).any (·.1) = false := by rfl) :
    PE X (.Call (.Name "list" p) [.Call (.Name "zip" zp) [e, e2] [] cpos] [] pos) (tListZip X.K ta) := by
  refine ⟨fun pins s σ H Q I hq => wpAny_Call_Name_kw (ld_blt I hg hm PyProof.Rows.boot_list (PyProof.Rows.callWith_type1 ?_ hs rfl))⟩
  rw [hs]
  show wpAny _ _ (spliced ((false, eval (.Call (.Name "zip" zp) [e, e2] [] cpos) X.env) :: backTo pos (starEach [] X.env))) _ _ s
  refine Calls.spliced_cons (Call_ (ld_blt I hgz hmz PyProof.Rows.boot_zip (PyProof.Rows.callWith_type1 (thn (ha.run cpos pins s σ H _ I hq) fun us s1 ⟨vs, H1, I1, r1, q1⟩ => ?_) hs2 hpl)))
  obtain ⟨a, b, xs, ys, ex, hab, hl, q⟩ := q1
  subst ex
  obtain ⟨u1, u2, rfl, rx, ry⟩ := vals2 r1
  cases rx
  cases ry
  have hh := I1.ok.hd hc
  have ap : ∀ {v : Addr} {o : Obj}, s1.heap.get? v = some o → ∀ x ∈ [v], x < s1.heap.objs.size := fun e x hx => by rw [List.mem_singleton.mp hx]; exact Heap.lt_size e
  have fin : ∀ (h1 : Heap) (fp1 fp2 : List Addr) (us ws : List Value) (St1 St2 : Nat → Heap → Prop), xs.length ≤ sizeLine → Vals xs us → Vals ys ws → (∀ c ∈ fp1, c < s1.heap.objs.size) → (∀ c ∈ fp2, c < s1.heap.objs.size) →
      (∀ A : Around, A.handled = none → Draws X.prog X.w A s1.heap.objs.size (s1.heap.objs.size :: fp1) us.toArray.size (fun i v => us.toArray[i]? = some v) St1) → (∀ A : Around, A.handled = none → Draws X.prog X.w A (s1.heap.objs.size + 1) ((s1.heap.objs.size + 1) :: fp2) ws.toArray.size (fun i v => ws.toArray[i]? = some v) St2) →
      IsZip h1 (s1.heap.objs.size + 4) (s1.heap.objs.size + 2) (s1.heap.objs.size + 3) .none → IsTupOf2 h1 (s1.heap.objs.size + 2) (.ref s1.heap.objs.size) (.ref (s1.heap.objs.size + 1)) → IsTupOf2 h1 (s1.heap.objs.size + 3) .none .none → h1.objs.size = s1.heap.objs.size + 5 →
      (∀ c o, s1.heap.get? c = some o → h1.get? c = some o) → St1 0 h1 → St2 0 h1 → wpAny (model X.prog X.w) X.A (call (.type "list") [.ref (s1.heap.objs.size + 4)]) (EP X pins σ Q) X.xe { s1 with heap := h1 } := by
    intro h1 fp1 fp2 us ws St1 St2 hz rv1 rv2 f1 f2 D1 D2 hZ hTI hTO hsz hk st1 st2
    have b1 := rv1.length
    have b2 := rv2.length
    refine zl_call (n := xs.length) (by simp; omega) (zip_sep2 f1 f2) (D1 X.A.in1.in1.in1 hh) (D2 X.A.in1.in1.in1 hh) hz (fun c hc => ?_) (fun c hc => ?_) hZ hTI ⟨_, _, hTO⟩ st1 st2 fun h' tk acc c as hk' hS hl' hG hacc => ?_
    · rw [hsz]
      rcases List.mem_cons.mp hc with e | e
      · rw [e]; exact Nat.lt_add_of_pos_right (by decide)
      · exact Nat.lt_of_lt_of_le (f1 c e) (Nat.le_add_right _ _)
    · rw [hsz]
      rcases List.mem_cons.mp hc with e | e
      · rw [e]; exact Nat.add_lt_add_left (by decide) _
      · exact Nat.lt_of_lt_of_le (f2 c e) (Nat.le_add_right _ _)
    · have nw : ∀ b o, s1.heap.get? b = some o → h'.get? b = some o := fun b o e => hk' b o ⟨Nat.ne_of_lt (Nat.lt_of_lt_of_le (Heap.lt_size e) (Nat.le_add_right _ _)), Nat.ne_of_lt (Heap.lt_size e), Nat.ne_of_lt (Nat.lt_of_lt_of_le (Heap.lt_size e) (Nat.le_add_right _ _)), Nat.ne_of_lt (Nat.lt_of_lt_of_le (Heap.lt_size e) (Nat.le_add_right _ _))⟩ (hk b o e)
      obtain ⟨H', z, J⟩ := zips_laid (tk := tk) I1 (S := h1.objs.size) (by rw [hsz]; exact Nat.le_add_right _ _) hz hl rv1 rv2 nw hS hl' hG hacc
      exact ⟨.ref h1.objs.size, H', J, rfl, q H' _ as z⟩
  have N0 : ∀ c, c < s1.heap.objs.size → c ≠ s1.heap.objs.size ∧ c ≠ s1.heap.objs.size + 1 := fun c hc => ⟨Nat.ne_of_lt hc, by omega⟩
  rcases hab with ⟨h1, h2⟩ | ⟨h1, h2⟩
  · obtain ⟨us, rv1, p1, z1⟩ := I1.tuple h1
    obtain ⟨ws, rv2, p2, _⟩ := I1.tuple h2
    have la : a < s1.heap.objs.size := let ⟨_, e, _⟩ := p1; Heap.lt_size e
    have lb : b < s1.heap.objs.size := let ⟨_, e, _⟩ := p2; Heap.lt_size e
    refine zip_begins2 (begins_tuple a us.toArray) (begins_tuple b ws.toArray) p1 p2 fun h' hZ hTI hTO o1 o2 hsz hk => ?_
    refine Calls.spliced_nil ?_
    exact fin h' [a] [b] us ws _ _ z1 rv1 rv2 (by simpa using la) (by simpa using lb) (fun A hA => Draws.tuple hA _ a (N0 a la).1 us.toArray) (fun A hA => Draws.tuple hA _ b (N0 b lb).2 ws.toArray) hZ hTI hTO hsz hk ⟨⟨_, o1, rfl, rfl⟩, (let ⟨o, e, r⟩ := p1; ⟨o, hk _ o e, r⟩)⟩ ⟨⟨_, o2, rfl, rfl⟩, (let ⟨o, e, r⟩ := p2; ⟨o, hk _ o e, r⟩)⟩
  · obtain ⟨us, rv1, p1, z1⟩ := I1.list h1
    obtain ⟨ws, rv2, p2, _⟩ := I1.list h2
    refine zip_begins2 (begins_list a us.toArray) (begins_list b ws.toArray) p1.isList p2.isList fun h' hZ hTI hTO o1 o2 hsz hk => ?_
    refine Calls.spliced_nil ?_
    exact fin h' [a] [b] us ws _ _ z1 rv1 rv2 (by simpa using p1.lt) (by simpa using p2.lt) (fun A hA => Draws.list hA _ a (N0 a p1.lt).1 us.toArray) (fun A hA => Draws.list hA _ b (N0 b p2.lt).2 ws.toArray) hZ hTI hTO hsz hk ⟨⟨_, o1, rfl, rfl⟩, p1.isList.at fun o e => hk _ o e⟩ ⟨⟨_, o2, rfl, rfl⟩, p2.isList.at fun o e => hk _ o e⟩
end
end Lz

set_option Elab.async false
set_option linter.all false
set_option maxRecDepth 100000
set_option maxHeartbeats 4000000
/-! name = {k: v for ..} as a statement; its reading over a walk -/
namespace Sd
open PySem PySem.Spec PyProof.Rows L2
section
variable {X : Cx}
theorem ps_setDc {i : Nat} {y : Str} {py : Pos} {kx vx tg iter : Expr} {ifs : List Expr} {scope : Scope} {own : List (Str × Nat)} {pos spos : Pos} {wi : TI} {g : TG} {tt : TT} {tk tv : TE} (hc : X.calm = true) (hN : X.N.Nodup) (hy : X.N[i]? = some y) (hyl : X.env.scope.names.lookup y = some .local)
    (hsw : swapsWith (.DictComp kx vx [⟨tg, iter, ifs, 0⟩] scope pos) (some (.Name y py)) spos.line X.env = pure true) (hi : PI X tg iter wi) (ok : BlkOk X.N X.env.scope scope own)
    (hg : ∀ (s : Shared) (H : Hp) (C : Addr) (cl : List (Str × Addr)) (fp : List Addr), PG (X.blk s H scope (compEnvC scope cl C X.env) fp) tg g) (ht : ∀ (s : Shared) (H : Hp) (C : Addr) (cl : List (Str × Addr)) (fp : List Addr), PTs (X.blk s H scope (compEnvC scope cl C X.env) fp) ifs tt)
    (hk : ∀ (s : Shared) (H : Hp) (C : Addr) (cl : List (Str × Addr)) (fp : List Addr), PE (X.blk s H scope (compEnvC scope cl C X.env) fp) kx tk) (he : ∀ (s : Shared) (H : Hp) (C : Addr) (cl : List (Str × Addr)) (fp : List Addr), PE (X.blk s H scope (compEnvC scope cl C X.env) fp) vx tv)
    (hs : ∀ x, foldedSetIterable iter X.env x = pure x := by intro _; rfl) : PS X (.Assign [.Name y py] (.DictComp kx vx [⟨tg, iter, ifs, 0⟩] scope pos) spos) (tAsg (tDc wi g tt tk tv (own.map (·.2))) (gName i)) := by
  refine ⟨fun pins s σ H D I h => ?_⟩
  rw [exec_Assign_Name_used _ _ _ _ hsw]; refine wpAny_bind (wpAny_standAt (wpAny_bind ?_))
  show wpAny _ X.A (do let _ ← comprehension (.DictComp kx vx [⟨tg, iter, ifs, 0⟩] scope pos) scope X.env (firstIterPos [⟨tg, iter, ifs, 0⟩] pos) newDict false (eval iter X.env) (some (assign (.Name y py) X.env))) _ _ s
  have h : tDc wi g tt tk tv (own.map (·.2)) σ H (fun x H1 => gName i x σ H1 D.nx) := h
  refine wpAny_bind (thn (dc_core (Qf := fun _ s' => SP X pins D .next s') hc hN I hi ok hg ht hk he hs h fun L C s' m H' I' q hn f => ?_) fun _ s' hq => wpAny_pure (wpAny_pure hq))
  (show wpAny _ _ (assign (.Name y py) X.env (.ref L)) _ _ _); refine wpAny_assign_Name (store_ok2 (v := V.ref L) I' hN hy (.inl hyl) rfl (fun s2 I2 ⟨a, sb, ha⟩ => ?_) (.inr hyl))
  obtain ⟨f0, f1, f2, f3, f4, f5⟩ := f
  have hne : C ≠ a := ha.elim (fun z => by rw [z]; exact f1) fun z e => f4 y a z e.symm
  exact ⟨m, hn.sameBut sb hne, fun h3 sb3 => ⟨_, H', I2.turned (t' := s2.toks) (fun b o hb e => (sb3.2 b hb).trans e) f0 f1 f3 f4 f5, q⟩⟩
theorem sw_trueD {kx vx : Expr} {gs : List Comprehension} {scope : Scope} {pos py : Pos} {y : Str} {l : Nat} {env : Env} (hk : env.scope.kind = .function) (hy : env.scope.names.lookup y = some .local) (hl : (py.line == pos.line) = true)
    (ha : (scope.names.any fun (n, k) => n == y && (k == .local || k == .cell)) = false) : swapsWith (.DictComp kx vx gs scope pos) (some (.Name y py)) l env = pure true := by
  have ky : env.kindOf y = some .local := hy
  have hb : env.blockKind = .function := by unfold Env.blockKind; rw [hk]; rfl
  unfold swapsWith
  simp only [hb, ky, ha, Expr.pos, hl]; rfl
end
/-- over anything that is walked -/
theorem dc_it {J : It} {n : Nat} {G : Hp → Prop} {Y : Nat → Hp → V → Hp → Prop} (w : Walk J n G Y) {g : TG} {tt : TT} {tk tv : TE} {vs : List Nat} {σ : L2.St} {H1 : Hp} {D : Addr} {Qd : Hp → Prop} (Pv : Nat → Hp → Prop) (h0 : Pv 0 (upd H1 D (.dK []))) (hG : ∀ i H, i ≤ n → Pv i H → G H)
    (hs : ∀ i x H H', i < n → Pv i H → Y i H x H' → g x (wipe σ vs) H' fun σ2 H2 => wipe σ2 vs = wipe σ vs ∧ tt σ2 H2 fun b H3 =>
      if b = true then tk σ2 H3 fun y H4 => tv σ2 H4 fun z H5 => ∃ kvs k, y = kV k ∧ H5 D = some (.dK kvs) ∧ kvs.length < sizeLine ∧ Pv (i + 1) (upd H5 D (.dK (putK kvs k z))) else Pv (i + 1) H3) (hd : ∀ H, Pv n H → Qd H) :
    ∃ W : Nat → Nat → Hp → Prop, (∃ m, W 0 m (upd H1 D (.dK []))) ∧ ∀ i m H, W i m H →
      (J.stop i H ∧ Qd H) ∨ (J.go i H ∧ ∃ Nx : Hp → Prop, (∀ H', Nx H' → ∃ m', m' < m ∧ W (i + 1) m' H') ∧ ∀ x H', J.yld i H x H' → g x (wipe σ vs) H' fun σ2 H2 => wipe σ2 vs = wipe σ vs ∧ tt σ2 H2 fun b H3 =>
        if b = true then tk σ2 H3 fun y H4 => tv σ2 H4 fun z H5 => ∃ kvs k, y = kV k ∧ H5 D = some (.dK kvs) ∧ kvs.length < sizeLine ∧ Nx (upd H5 D (.dK (putK kvs k z))) else Nx H3) := by
  refine ⟨fun i m H => m = n - i ∧ i ≤ n ∧ Pv i H, ⟨n, (Nat.sub_zero n).symm, Nat.zero_le _, h0⟩, ?_⟩
  rintro i m H ⟨rfl, hi, p⟩
  rcases Nat.lt_or_ge i n with lt | ge
  · exact .inr ⟨w.goes i H lt (hG i H hi p), Pv (i + 1), fun H' p' => ⟨n - (i + 1), by omega, rfl, lt, p'⟩, fun x H' y => hs i x H H' lt p (w.yields i H x H' lt (hG i H hi p) y)⟩
  · have e : i = n := by omega
    subst e
    exact .inl ⟨w.stops H (hG i H hi p), hd H p⟩
end Sd

set_option Elab.async false
set_option linter.all false
set_option maxRecDepth 100000
set_option maxHeartbeats 4000000
/-! data as the program's equal goes through it -/
namespace Dq
open PySem PySem.Spec PyProof.Rows L2
inductive DV (OB : Type) where
  | non
  | bl (b : Bool)
  | int (i : Int)
  | str (s : Str)
  | ob (o : OB)
  | tup (l : List (DV OB))
  | lst (l : List (DV OB))
  | map (ks : List Str) (l : List (DV OB))
/-- objects with an own ==: where one stands, its class, what == answers of two of one class -/
structure Obs (OB : Type) where
  At : Hp → OB → V → Prop
  cls : OB → Addr
  eq : OB → OB → Bool
variable {OB : Type}
mutual
def Dv (O : Obs OB) (H : Hp) : DV OB → V → Prop
  | .non, v => v = .non
  | .bl b, v => v = .bl b
  | .int i, v => v = .int i
  | .str s, v => v = .str s
  | .ob o, v => O.At H o v
  | .tup l, v => ∃ a us, v = .ref a ∧ H a = some (.tup us) ∧ DvL O H l us
  | .lst l, v => ∃ a us, v = .ref a ∧ H a = some (.lst us) ∧ DvL O H l us
  | .map ks l, v => ∃ a kvs, v = .ref a ∧ H a = some (.dK kvs) ∧ ks.Nodup ∧ kvs.map (·.1) = ks.map Sum.inr ∧ DvL O H l (kvs.map (·.2))
def DvL (O : Obs OB) (H : Hp) : List (DV OB) → List V → Prop
  | [], us => us = []
  | x :: l, us => ∃ u us', us = u :: us' ∧ Dv O H x u ∧ DvL O H l us'
end
/-- what is kept at the key -/
def look : List Str → List (DV OB) → Str → Option (DV OB)
  | k :: ks, x :: l, z => if z = k then some x else look ks l z
  | _, _, _ => none
mutual
def eqD (O : Obs OB) : DV OB → DV OB → Bool
  | .non, .non => true
  | .bl a, .bl b => decide (a = b)
  | .int a, .int b => decide (a = b)
  | .str a, .str b => decide (a = b)
  | .ob a, .ob b => decide (O.cls a = O.cls b) && O.eq a b
  | .tup l, .tup m => eqL O l m
  | .lst l, .lst m => eqL O l m
  | .map ks l, .map js m => decide (ks.length = js.length) && eqM O ks l js m
  | _, _ => false
def eqL (O : Obs OB) : List (DV OB) → List (DV OB) → Bool
  | [], [] => true
  | x :: l, y :: m => eqD O x y && eqL O l m
  | _, _ => false
def eqM (O : Obs OB) (ks : List Str) : List (DV OB) → List Str → List (DV OB) → Bool
  | [], _, _ => true
  | x :: l, js, m => (match ks with | k :: _ => (match look js m k with | some y => eqD O x y | none => false) | [] => true) && eqM O (ks.drop 1) l js m
end
mutual
/-- how many pairs the way through a value can have at most -/
def wt : DV OB → Nat
  | .tup l => 1 + wtL l
  | .lst l => 1 + wtL l
  | .map ks l => 1 + ks.length + wtL l
  | _ => 1
def wtL : List (DV OB) → Nat
  | [] => 0
  | x :: l => wt x + wtL l
end
end Dq

set_option Elab.async false
set_option linter.all false
set_option maxRecDepth 100000
set_option maxHeartbeats 4000000
namespace Dq
open PySem PySem.Spec PyProof.Rows L2
structure ObsOk {OB : Type} (K : PySem.W.Frag) (O : Obs OB) : Prop where
  keep : ∀ {H H' : Hp} {o : OB} {v : V}, Same H H' → O.At H o v → O.At H' o v
  ins : ∀ {H : Hp} {o : OB} {v : V}, O.At H o v → ∃ a dx fs, v = .ref a ∧ H a = some (.ins (O.cls o) dx fs)
  insC : ∀ o, C8.InsC K (O.cls o)
  kT : ∀ o T, T ∈ ["list", "dict", "tuple"] → PySem.W.kitOne K (.ref (O.cls o)) (.type T) = some false
  makes : ∀ o, PySem.W.makesIn K (O.cls o) = true
variable {OB : Type} {O : Obs OB} {K : PySem.W.Frag}
mutual
theorem Dv.keep (ok : ObsOk K O) {H H' : Hp} (k : Same H H') : ∀ (x : DV OB) (v : V), Dv O H x v → Dv O H' x v
  | .non, _, h => h
  | .bl _, _, h => h
  | .int _, _, h => h
  | .str _, _, h => h
  | .ob _, _, h => ok.keep k h
  | .tup l, _, ⟨a, us, e, h, p⟩ => ⟨a, us, e, k _ _ h, DvL.keep ok k l us p⟩
  | .lst l, _, ⟨a, us, e, h, p⟩ => ⟨a, us, e, k _ _ h, DvL.keep ok k l us p⟩
  | .map _ l, _, ⟨a, kvs, e, h, nd, hk, p⟩ => ⟨a, kvs, e, k _ _ h, nd, hk, DvL.keep ok k l _ p⟩
theorem DvL.keep (ok : ObsOk K O) {H H' : Hp} (k : Same H H') : ∀ (l : List (DV OB)) (us : List V), DvL O H l us → DvL O H' l us
  | [], _, h => h
  | x :: l, _, ⟨u, us, e, h, p⟩ => ⟨u, us, e, Dv.keep ok k x u h, DvL.keep ok k l us p⟩
end
theorem DvL.len {H : Hp} : ∀ {l : List (DV OB)} {us : List V}, DvL O H l us → us.length = l.length
  | [], _, h => by cases h; rfl
  | x :: l, _, ⟨u, us, e, _, p⟩ => by subst e; exact congrArg (· + 1) (DvL.len p)
theorem DvL.at {H : Hp} : ∀ {l : List (DV OB)} {us : List V}, DvL O H l us → ∀ {i : Nat} {x : DV OB} {u : V}, l[i]? = some x → us[i]? = some u → Dv O H x u
  | [], _, h, i, x, u, e, _ => by cases e
  | y :: l, _, ⟨w, us, rfl, h, p⟩, 0, x, u, e, f => by cases e; cases f; exact h
  | y :: l, _, ⟨w, us, rfl, h, p⟩, i + 1, x, u, e, f => DvL.at (l := l) p (i := i) (by simpa using e) (by simpa using f)
/-- a value's class -/
def tyD (O : Obs OB) : DV OB → V
  | .non => .ty "NoneType"
  | .bl _ => .ty "bool"
  | .int _ => .ty "int"
  | .str _ => .ty "str"
  | .ob o => .ref (O.cls o)
  | .tup _ => .ty "tuple"
  | .lst _ => .ty "list"
  | .map _ _ => .ty "dict"
def tyU (O : Obs OB) : DV OB → Value
  | .non => .type "NoneType"
  | .bl _ => .type "bool"
  | .int _ => .type "int"
  | .str _ => .type "str"
  | .ob o => .ref (O.cls o)
  | .tup _ => .type "tuple"
  | .lst _ => .type "list"
  | .map _ _ => .type "dict"
def isSeq : DV OB → Bool
  | .tup _ => true
  | .lst _ => true
  | _ => false
def isMap : DV OB → Bool
  | .map _ _ => true
  | _ => false
theorem Dv.ty (ok : ObsOk K O) {H : Hp} {x : DV OB} {v : V} (h : Dv O H x v) : TyX K H v (tyU O x) := by
  cases x with
  | non => cases h; exact .base .non
  | bl b => cases h; exact .base (.bl b)
  | int i => cases h; exact .base (.int i)
  | str s => cases h; exact .base (.str s)
  | ob o =>
    obtain ⟨a, dx, fs, rfl, e⟩ := ok.ins h
    have U := ok.insC o
    exact .base (.ins e U.cl U.ha U.hn U.htk U.hm)
  | tup l => obtain ⟨a, us, rfl, e, _⟩ := h; exact .base (.tup e)
  | lst l => obtain ⟨a, us, rfl, e, _⟩ := h; exact .base (.lst e)
  | map ks l => obtain ⟨a, us, rfl, e, _⟩ := h; exact .base (.dK e)
theorem kit_tab2 : ∀ a ∈ ["NoneType", "bool", "int", "str", "tuple", "list", "dict"], ∀ T ∈ ["list", "dict", "tuple"], kitB a T = some (a == T) := by decide +kernel
theorem kit_one (ok : ObsOk K O) (x : DV OB) {T : String} (hT : T ∈ ["list", "dict", "tuple"]) : PySem.W.kitOne K (tyU O x) (.type T) = some (decide (tyD O x = .ty T)) := by
  have go : ∀ a, a ∈ ["NoneType", "bool", "int", "str", "tuple", "list", "dict"] → PySem.W.kitOne K (.type a) (.type T) = some (decide (V.ty a = V.ty T)) := fun a ha => by
    have e : (a == T) = decide (V.ty a = V.ty T) := by rw [Bool.eq_iff_iff]; simp
    rw [← e]
    exact kit_ty (kit_tab2 a ha T hT)
  cases x with
  | ob o => simpa [tyU, tyD] using ok.kT o T hT
  | _ => exact go _ (by simp)
theorem kit_seq (ok : ObsOk K O) (x : DV OB) : PySem.W.kitAny K (tyU O x) [.type "tuple", .type "list"] = some (isSeq x) := by
  unfold PySem.W.kitAny
  rw [kit_one ok x (by simp)]
  unfold PySem.W.kitAny
  rw [kit_one ok x (by simp)]
  cases x <;> simp [tyD, isSeq, PySem.W.kitAny]
section
variable {X : Cx}
theorem call_isTL (ok : ObsOk X.K O) : CallR X (.builtin "isinstance") (fun xs H Q => ∃ v tp x, xs = [v, .ref tp] ∧ H tp = some (.tup [.ty "tuple", .ty "list"]) ∧ Dv O H x v ∧ Q (.bl (isSeq x)) H) := fun pins s σ H xs us Q I r ⟨v, tp, x, e, ht, h, q⟩ =>
  call_isiT pins s σ H xs us Q I r ⟨v, tp, _, tyU O x, [.type "tuple", .type "list"], isSeq x, e, ht, .cons (.ty _) (.cons (.ty _) .nil), h.ty ok, kit_seq ok x, q⟩
theorem call_isD (ok : ObsOk X.K O) : CallR X (.builtin "isinstance") (fun xs H Q => ∃ v x, xs = [v, .ty "dict"] ∧ Dv O H x v ∧ Q (.bl (isMap x)) H) := fun pins s σ H xs us Q I r ⟨v, x, e, h, q⟩ => by
  have : decide (tyD O x = .ty "dict") = isMap x := by cases x <;> simp [tyD, isMap]
  exact call_isi pins s σ H xs us Q I r ⟨v, .ty "dict", tyU O x, .type "dict", isMap x, e, .ty "dict", h.ty ok, by rw [← this]; exact kit_one ok x (by simp), q⟩
/-- type(x) -/
theorem call_tyD (ok : ObsOk X.K O) : CallR X (.type "type") (fun xs H Q => ∃ v x, xs = [v] ∧ Dv O H x v ∧ Q (tyD O x) H) := fun pins s σ H xs us Q I r ⟨v, x, e, h, q⟩ => by
  have go : ∀ T, TyB X.K H v T → tyD O x = .ty T → wpAny (model X.prog X.w) X.A (call (.type "type") us) (EP X pins σ Q) X.xe s := fun T t e2 => by
    rw [e2] at q
    exact call_type1 pins s σ H xs us Q I r ⟨v, T, e, t, q⟩
  cases x with
  | non => cases h; exact go _ .non rfl
  | bl b => cases h; exact go _ (.bl b) rfl
  | int i => cases h; exact go _ (.int i) rfl
  | str s => cases h; exact go _ (.str s) rfl
  | ob o =>
    obtain ⟨a, dx, fs, e3, ea⟩ := ok.ins h
    subst e3
    exact cr_type pins s σ H xs us Q I r ⟨a, _, dx, fs, e, ea, q⟩
  | tup l => obtain ⟨a, us, rfl, ea, _⟩ := h; exact go _ (.tup (SqT.of ea)) rfl
  | lst l => obtain ⟨a, us, rfl, ea, _⟩ := h; exact go _ (.lst (SqL.of ea)) rfl
  | map ks l => obtain ⟨a, us, rfl, ea, _⟩ := h; exact go _ (.dK ea) rfl
/-- of two classes: is -/
theorem op_isD (ok : ObsOk X.K O) : OpR X (compareOp .Is) (fun a b H Q => ∃ x y : DV OB, a = tyD O x ∧ b = tyD O y ∧ Q (.bl (decide (tyD O x = tyD O y))) H) := by
  intro pins s σ H a b v u Q I rx ry h
  obtain ⟨x, y, ea, eb, q⟩ := h
  have cl : ∀ z : DV OB, (∃ T, tyD O z = .ty T) ∨ ∃ o, tyD O z = .ref (O.cls o) := fun z => by
    cases z with
    | ob o => exact .inr ⟨o, rfl⟩
    | _ => exact .inl ⟨_, rfl⟩
  rcases cl x with ⟨T, e1⟩ | ⟨o, e1⟩ <;> rcases cl y with ⟨T', e2⟩ | ⟨o', e2⟩
  · rw [e1, e2] at q
    refine op_isTyB pins s σ H a b v u Q I rx ry ⟨T, T', ea.trans e1, eb.trans e2, ?_⟩
    have : decide (V.ty T = V.ty T') = decide (T = T') := by rw [Bool.eq_iff_iff]; simp
    rwa [this] at q
  · rw [e1, e2] at q
    have e3 := ea.trans e1
    have e4 := eb.trans e2
    subst e3 e4
    cases (show v = Value.type T from rx)
    cases (show u = Value.ref _ from ry)
    exact wpAny_is_other rfl (fun z => by cases z) ⟨.bl false, H, I, rfl, by simpa using q⟩
  · rw [e1, e2] at q
    have e3 := ea.trans e1
    have e4 := eb.trans e2
    subst e3 e4
    cases (show v = Value.ref _ from rx)
    cases (show u = Value.type T' from ry)
    exact wpAny_is_other rfl (fun z => by cases z) ⟨.bl false, H, I, rfl, by simpa using q⟩
  · rw [e1, e2] at q
    refine op_is_cls pins s σ H a b v u Q I rx ry ⟨_, _, ea.trans e1, eb.trans e2, .inr ⟨ok.makes o, ok.makes o'⟩, ?_⟩
    have : decide (V.ref (O.cls o) = V.ref (O.cls o')) = decide (O.cls o = O.cls o') := by rw [Bool.eq_iff_iff]; simp
    rwa [this] at q
/-- x == y of two objects of one class -/
def rOb (O : Obs OB) : R2 := fun x y H Q => ∃ a b, O.At H a x ∧ O.At H b y ∧ O.cls a = O.cls b ∧ ∀ H', Same H H' → Q (.bl (O.eq a b)) H'
/-- == of what is neither a tuple, a list nor a dict -/
theorem op_leaf (hu : X.A.units + 64 < cLine) (oe : OpR X (compareOp .Eq) (rOb O)) : OpR X (compareOp .Eq) (fun a b H Q => ∃ x y : DV OB, Dv O H x a ∧ Dv O H y b ∧ tyD O x = tyD O y ∧ isSeq x = false ∧ isMap x = false ∧ ∀ H', Same H H' → Q (.bl (eqD O x y)) H') := by
  intro pins s σ H a b v u Q I rx ry h
  obtain ⟨x, y, hx, hy, et, q1, q2, q⟩ := h
  have sca : ∀ a0 b0 : V, a = a0 → b = b0 → scal a0 b0 = true → decide (a0 = b0) = eqD O x y → wpAny (model X.prog X.w) X.A (compareOp .Eq v u) (EP X pins σ Q) X.xe s := fun a0 b0 e1 e2 sd e3 => by
    subst e1 e2
    refine op_eq pins s σ H a b v u Q I rx ry ⟨sd, ?_⟩
    rw [e3]
    exact q H (Same.refl H)
  cases x with
  | non =>
    cases y <;> simp [tyD] at et
    have q0 := q H (Same.refl H)
    rw [eqD] at q0
    exact op_eqD hu pins s σ H a b v u Q I rx ry ⟨.none, .none, by rw [show a = .non from hx]; exact .non, by rw [show b = .non from hy]; exact .non, rfl, rfl, q0⟩
  | bl c =>
    cases y <;> simp [tyD] at et
    rename_i d
    exact sca (.bl c) (.bl d) hx hy rfl (by simp [eqD])
  | int c =>
    cases y <;> simp [tyD] at et
    rename_i d
    exact sca (.int c) (.int d) hx hy rfl (by simp [eqD])
  | str c =>
    cases y <;> simp [tyD] at et
    rename_i d
    exact sca (.str c) (.str d) hx hy rfl (by simp [eqD])
  | ob o =>
    cases y <;> simp [tyD] at et
    rename_i o'
    have e : eqD O (.ob o) (.ob o') = O.eq o o' := by rw [eqD, decide_eq_true et]; rfl
    rw [e] at q
    exact oe pins s σ H a b v u Q I rx ry ⟨o, o', hx, hy, et, q⟩
  | tup l => cases q1
  | lst l => cases q1
  | map ks l => cases q2
end
end Dq

set_option Elab.async false
set_option linter.all false
set_option maxRecDepth 100000
set_option maxHeartbeats 4000000
namespace Dq
open PySem PySem.Spec PyProof.Rows L2
abbrev sPod : Stmt := Pf.top 2
/-- what two dicts are held against each other by -/
def podP : List (Key × V) → List (Key × V) → List (V × V)
  | [], _ => []
  | p :: ks, ls => (kV p.1, kV p.1) :: (p.2, (valV ls p.1).getD .non) :: podP ks ls
theorem podP_len : ∀ ks ls, (podP ks ls).length = 2 * ks.length
  | [], _ => rfl
  | _ :: ks, ls => by
    show (podP ks ls).length + 1 + 1 = 2 * (ks.length + 1)
    rw [podP_len ks ls]
    omega
theorem podP_snoc (p : Key × V) : ∀ ks ls, podP (ks ++ [p]) ls = podP ks ls ++ [(kV p.1, kV p.1), (p.2, (valV ls p.1).getD .non)]
  | [], _ => rfl
  | q :: ks, ls => by
    show _ :: _ :: podP (ks ++ [p]) ls = _
    rw [podP_snoc p ks ls]
    rfl
/-- the pairs stand in the list at D -/
def PrsAt (H : Hp) (D : Addr) (ps : List (V × V)) : Prop := ∃ ts : List Addr, H D = some (.lst (ts.map V.ref)) ∧ ts.length = ps.length ∧ ∀ (j : Nat) (t : Addr) (p : V × V), ts[j]? = some t → ps[j]? = some p → H t = some (.tup [p.1, p.2])
def spPod : Sp := fun vs H Q _ => ∃ (a b : Addr) (ks ls : List (Key × V)), vs = [.ref a, .ref b] ∧ H a = some (.dK ks) ∧ H b = some (.dK ls) ∧ (ks.map (·.1)).Nodup ∧ ks.length ≤ 100000 ∧ ls.length ≤ 100000 ∧
  ((ks.length ≠ ls.length ∨ ∃ p ∈ ks, valV ls p.1 = none) → ∀ H', Same H H' → Q .non H') ∧
  (ks.length = ls.length → (∀ p ∈ ks, valV ls p.1 ≠ none) → ∀ D H', Same H H' → H D = none → PrsAt H' D (podP ks ls) → Q (.ref D) H')
abbrev NPod : List Str := ["one", "other", "theirs", "pairs", "key"]
theorem scPod : FnScope NPod ["one", "other"] (defScope sPod) := ⟨rfl, rfl, rfl, by decide +kernel, rfl, by decide +kernel, by decide +kernel⟩
theorem find_at : ∀ {ks : List (Key × V)} {i : Nat} {k : Key} {v : V}, (ks.map (·.1)).Nodup → ks[i]? = some (k, v) → valV ks k = some v
  | [], _, _, _, _, h => by simp at h
  | p :: ks, 0, k, v, _, h => by
    simp only [List.getElem?_cons_zero, Option.some.injEq] at h
    subst h
    exact valV_pos rfl
  | p :: ks, i + 1, k, v, nd, h => by
    have h' : ks[i]? = some (k, v) := by simpa using h
    have nd' := List.nodup_cons.mp nd
    rw [valV_neg fun e => nd'.1 (by show p.1 ∈ _; rw [e]; exact List.mem_map.mpr ⟨(k, v), List.mem_of_getElem? h', rfl⟩)]
    exact find_at nd'.2 h'
theorem take_succ' {α : Type} {l : List α} {i : Nat} {x : α} (h : l[i]? = some x) : l.take (i + 1) = l.take i ++ [x] := by
  rw [List.take_add_one, h]
  rfl
structure TxtE (mg : Str → Option Value) : Prop where
  len : mg "len" = none
  list : mg "list" = none
  zip : mg "zip" = none
  type : mg "type" = none
  tuple : mg "tuple" = none
  dict : mg "dict" = none
  isi : mg "isinstance" = none
section
variable {P : Program} {w : World} {K : PySem.W.Frag} {mg : Str → Option Value} {base : Heap}
theorem ok_pod {f : Addr} {fd : FuncData} (F : Fun K "_pairs_of_dicts" "_pairs_of_dicts" sPod f fd) (T : TxtE mg) : FnOk P w K mg base CX0 1 f fd ["one", "other"] spPod := by
  refine F.ok scPod (fun vs H Q E h => ?_) (fun cdv A outer s H vs Q E hr h => ?_)
  · obtain ⟨a, b, ks, ls, rfl, _⟩ := h
    rfl
  · obtain ⟨a, b, ks, ls, rfl, ha, hb, nd, zk, zl, qn, qy⟩ := h
    have hu := hu_of hr
    refine ⟨_, (pss_cons (ps_if (pt_cmpR op_ne (pe_callB call_lenD (by rfl) T.len PySem.boot_len (pa_cons (pv 0) pa_nil)) (pe_callB call_lenD (by rfl) T.len PySem.boot_len (pa_cons (pv 1) pa_nil)) (nomark _)) (pss_one (ps_ret pe_non)) pss_nil)
      (pss_cons (ps_lock (Sd.ps_setDc (i := 2) (own := [("key", 4)]) (g := gName 4) (tt := tYes) rfl scPod.nd rfl rfl (Sd.sw_trueD rfl rfl rfl (by decide +kernel)) (pi_keys (pv 1)) (blkOk_by (N := NPod) (sc := defScope sPod) (by decide +kernel)) (fun _ _ _ _ _ => pg_name (i := 4) scPod.nd rfl (Or.inl rfl)) (fun _ _ _ _ _ => pts_nil) (fun _ _ _ _ _ => pv 4) (fun _ _ _ _ _ => pv 4)))
      (pss_cons (ps_set (i := 3) scPod.nd rfl (Or.inl rfl) (pe_lst pa_nil))
      (pss_cons (ps_lock (ps_for PassesOwn.never rfl (pi_keys (pv 0)) (pg_name (i := 4) scPod.nd rfl (Or.inl rfl))
        (pss_cons (ps_if (pt_cmp (pc_dnotin hu (pv 4) (pv 2))) (pss_one (ps_ret pe_non)) pss_nil)
        (pss_cons (ps_expr (pe_bm PySem.F.plainAttrs_list PySem.F.slot_list_append PySem.F.type_list_append mt_append (pv 3) (pa_cons (pe_tup (pa_cons (pv 4) (pa_cons (pe_dget hu (pv 2) (pv 4) (fun _ _ => rfl)) pa_nil))) pa_nil)))
        (pss_one (ps_expr (pe_bm PySem.F.plainAttrs_list PySem.F.slot_list_append PySem.F.type_list_append mt_append (pv 3) (pa_cons (pe_tup (pa_cons (pe_dget hu (pv 0) (pv 4) (fun _ _ => rfl)) (pa_cons (pe_dget hu (pv 1) (pv 4) (fun _ _ => rfl)) pa_nil))) pa_nil))))))))
      (pss_one (ps_ret (pv 3))))))), ?_⟩
    refine ⟨_, rfl, a, ks, rfl, ha, _, rfl, b, ls, rfl, hb, rfl, _, rfl, ?_⟩
    by_cases el : ks.length = ls.length
    case neg =>
      refine Vl.iteC (by simp; omega) ?_
      exact qn (.inl el) H (Same.refl H)
    refine Vl.iteN (by simp [el]) ?_
    refine ⟨b, .dK ls, hb, True.intro, fun ob => ⟨_, rfl, b, ob, rfl, .inl ⟨ls, upd_same, fun TH hTH => ?_⟩⟩⟩
    have nTb : TH ≠ b := fun e => by rw [e, upd_same] at hTH; cases hTH
    have hTH0 : H TH = none := by rwa [upd_ne nTb] at hTH
    refine Sd.dc_it (walk_keys (d := b) (o := ob) (kvs := ls)) (fun i H' => (H' b = some (.frz ob (.dK ls)) ∧ ∀ c o, c ≠ b → H c = some o → H' c = some o) ∧ ∃ ts, H' TH = some (.dK ts) ∧ ts.length ≤ i ∧ ∀ k, valV ts k = if valV (ls.take i) k = none then none else some (kV k))
      ⟨⟨(upd_ne (Ne.symm nTb)).trans upd_same, fun c o n e => (upd_ne (ne_of_none e hTH0)).trans ((upd_ne n).trans e)⟩, [], upd_same, Nat.le_refl _, fun k => by simp [valV]⟩ (fun i H' _ h => h.1.1) (fun i x H2 H3 hi h y => ?_) (fun H2 h => ?_)
    · obtain ⟨⟨e1, e2⟩, ts, e3, e4, e5⟩ := h
      obtain ⟨rfl, k, v, e6, rfl⟩ := y
      refine ⟨rfl, _, rfl, _, rfl, ts, k, rfl, e3, Nat.lt_of_le_of_lt (Nat.le_trans e4 (Nat.le_trans (Nat.le_of_lt hi) zl)) (by decide), ⟨(upd_ne (Ne.symm nTb)).trans e1, fun c o n e => (upd_ne (ne_of_none e hTH0)).trans (e2 c o n e)⟩, _, upd_same, Nat.le_trans (length_putK _ _ _) (by omega), fun k2 => ?_⟩
      rw [valV_put, e5, take_succ' e6]
      by_cases q : k2 = k
      · subst q
        have : valV (ls.take i ++ [(k2, v)]) k2 ≠ none := by
          unfold valV
          simp
        rw [if_pos rfl, if_neg this]
      · rw [if_neg q]
        have : valV (ls.take i ++ [(k, v)]) k2 = valV (ls.take i) k2 := by
          unfold valV
          rw [List.find?_append]
          have : List.find? (fun kv => decide (kv.1 = k2)) [(k, v)] = none := by simpa using fun e => q e.symm
          rw [this]
          simp
        rw [this]
    obtain ⟨⟨e1, e2⟩, ts, e3, e4, e5⟩ := h
    rw [List.take_length] at e5
    refine ⟨e1, Nat.zero_le _, fun D hD => ?_⟩
    have s1 : Same H (upd H2 b (.dK ls)) := fun c o e => by
      by_cases n : c = b
      · subst n
        rw [hb] at e
        cases e
        exact upd_same
      · exact (upd_ne n).trans (e2 c o n e)
    have t1 : (upd H2 b (.dK ls)) TH = some (.dK ts) := (upd_ne nTb).trans e3
    generalize (upd H2 b (.dK ls)) = H4 at s1 t1 hD
    have hD0 : H D = none := by
      cases e : H D with
      | none => rfl
      | some o => rw [s1 D o e] at hD; cases hD
    have nDa : D ≠ a := fun e => by rw [e, ha] at hD0; cases hD0
    have nDT : D ≠ TH := fun e => by rw [e, t1] at hD; cases hD
    have nTa : TH ≠ a := fun e => by rw [e, ha] at hTH0; cases hTH0
    have a5 : upd H4 D (.lst []) a = some (.dK ks) := (upd_ne (Ne.symm nDa)).trans (s1 _ _ ha)
    refine ⟨a, .dK ks, a5, True.intro, fun oa => ⟨_, rfl, a, oa, rfl, .inl ⟨ks, upd_same, ?_⟩⟩⟩
    refine for_it (walk_keys (d := a) (o := oa) (kvs := ks)) (fun i σ H' => (∃ w, σ = [some (.ref a), some (.ref b), some (.ref TH), some (.ref D), w]) ∧ (H' a = some (.frz oa (.dK ks)) ∧ ∀ c o, c ≠ a → H c = some o → H' c = some o) ∧ H' TH = some (.dK ts) ∧
        PrsAt H' D (podP (ks.take i) ls) ∧ ∀ p ∈ ks.take i, valV ls p.1 ≠ none)
      ⟨⟨_, rfl⟩, ⟨upd_same, fun c o n e => (upd_ne n).trans ((upd_ne (ne_of_none e hD0)).trans (s1 _ _ e))⟩, (upd_ne nTa).trans ((upd_ne (Ne.symm nDT)).trans t1), ⟨[], (upd_ne nDa).trans upd_same, rfl, fun j t p h => by simp at h⟩, fun p h => by simp at h⟩ (fun i σ H' _ h => h.2.1.1) (fun i x σ H0 H' hi h y => ?_) (fun σ H' h => ?_)
    · obtain ⟨⟨w4, rfl⟩, ⟨f1, f2⟩, f3, ⟨tl, g1, g2, g3⟩, f4⟩ := h
      obtain ⟨rfl, k, v, e6, rfl⟩ := y
      have hTh : DGet H' TH (kV k) (valV ts k) := DGet.k f3
      refine ⟨_, rfl, _, rfl, TH, _, rfl, hTh, _, rfl, ?_⟩
      have es : valV ts k = if valV ls k = none then none else some (kV k) := e5 k
      by_cases no : valV ls k = none
      · rw [if_pos no] at es
        rw [es]
        refine Vl.iteC rfl ⟨f1, ?_⟩
        refine qn (.inr ⟨(k, v), List.mem_of_getElem? e6, no⟩) _ fun c o e => ?_
        by_cases n : c = a
        · subst n
          rw [ha] at e
          cases e
          exact upd_same
        · exact (upd_ne n).trans (f2 c o n e)
      · rw [if_neg no] at es
        rw [es]
        refine Vl.iteN rfl ?_
        obtain ⟨v2, ev2⟩ : ∃ v2, valV ls k = some v2 := by
          cases e : valV ls k with
          | none => exact absurd e no
          | some v2 => exact ⟨v2, rfl⟩
        have nDt : ∀ t o, H' t = some o → (∀ xs, o ≠ .lst xs) → t ≠ D := fun t o e n q => by
          rw [q, g1] at e
          cases e
          exact n _ rfl
        have l2 : tl.length ≤ 200000 := by
          rw [g2, podP_len]
          have := List.length_take_le i ks
          omega
        refine ⟨_, rfl, .inl ⟨rfl, _, SqL.of g1⟩, _, rfl, _, rfl, _, rfl, TH, kV k, rfl, es ▸ hTh, by show 2 ≤ sizeLine; decide, fun t1 ht1 => ?_⟩
        have n1D : t1 ≠ D := fun e => by rw [e, g1] at ht1; cases ht1
        have n1a : t1 ≠ a := fun e => by rw [e, f1] at ht1; cases ht1
        have n1T : t1 ≠ TH := fun e => by rw [e, f3] at ht1; cases ht1
        have g1' : upd H' t1 (.tup [kV k, kV k]) D = some (.lst (tl.map V.ref)) := (upd_ne (Ne.symm n1D)).trans g1
        refine ⟨D, _, _, rfl, rfl, g1', by rw [List.length_map]; exact Nat.lt_of_le_of_lt l2 (by decide), ?_⟩
        generalize hH5 : upd (upd H' t1 (.tup [kV k, kV k])) D (.lst (tl.map V.ref ++ [.ref t1])) = H5
        have k5 : ∀ c o, c ≠ D → H' c = some o → H5 c = some o := fun c o n e => by rw [← hH5, upd_ne n, upd_ne (ne_of_none e ht1)]; exact e
        have d5 : H5 D = some (.lst (tl.map V.ref ++ [.ref t1])) := by rw [← hH5]; exact upd_same
        have t5 : H5 t1 = some (.tup [kV k, kV k]) := by rw [← hH5, upd_ne n1D]; exact upd_same
        clear hH5
        refine ⟨_, rfl, .inl ⟨rfl, _, SqL.of d5⟩, _, rfl, _, rfl, a, v, rfl, .inl ⟨ks, k, .inr ⟨oa, k5 _ _ (Ne.symm nDa) f1⟩, rfl, (find_at nd e6).symm⟩, _, rfl, _, rfl, b, v2, rfl, .inl ⟨ls, k, ?_, rfl, ev2.symm⟩, by show 2 ≤ sizeLine; decide, fun t2 ht2 => ?_⟩
        · by_cases n : b = a
          · subst n
            rw [ha] at hb
            cases hb
            exact .inr ⟨oa, k5 _ _ (Ne.symm nDa) f1⟩
          · have hbD : b ≠ D := fun e => by rw [← e, hb] at hD0; cases hD0
            exact .inl (k5 _ _ hbD (f2 b _ n hb))
        have n2D : t2 ≠ D := fun e => by rw [e, d5] at ht2; cases ht2
        refine ⟨D, _, _, rfl, rfl, (upd_ne (Ne.symm n2D)).trans d5, by rw [List.length_append, List.length_map]; exact Nat.lt_of_le_of_lt (show tl.length + 1 ≤ 200001 by omega) (by decide), ?_⟩
        have k6 : ∀ c o, c ≠ D → H5 c = some o → upd (upd H5 t2 (.tup [v, v2])) D (.lst (tl.map V.ref ++ [.ref t1] ++ [.ref t2])) c = some o := fun c o n e => by rw [upd_ne n, upd_ne (ne_of_none e ht2)]; exact e
        have ea : a ≠ D := Ne.symm nDa
        refine ⟨⟨_, rfl⟩, ⟨k6 _ _ ea (k5 _ _ ea f1), fun c o n e => ?_⟩, k6 _ _ (Ne.symm nDT) (k5 _ _ (Ne.symm nDT) f3), ?_, ?_⟩
        · have nD : c ≠ D := fun q => by rw [q, hD0] at e; cases e
          exact k6 c o nD (k5 c o nD (f2 c o n e))
        · refine ⟨tl ++ [t1, t2], by rw [upd_same]; simp, ?_, fun j t p ej ep => ?_⟩
          · rw [take_succ' e6, podP_snoc, List.length_append, List.length_append, g2]
            rfl
          · rw [take_succ' e6, podP_snoc] at ep
            by_cases lt : j < tl.length
            · rw [List.getElem?_append_left lt] at ej
              rw [List.getElem?_append_left (by omega)] at ep
              have := g3 j t p ej ep
              have nD := nDt t _ this fun xs z => by cases z
              exact k6 t _ nD (k5 t _ nD this)
            · rw [List.getElem?_append_right (by omega)] at ej
              rw [List.getElem?_append_right (by omega), ← g2] at ep
              generalize j - tl.length = m at ej ep
              match m with
              | 0 =>
                simp at ej ep
                subst ej ep
                exact k6 _ _ n1D t5
              | 1 =>
                simp at ej ep
                subst ej ep
                rw [upd_ne n2D, upd_same, ev2]
                rfl
              | n + 2 => simp at ej
        · intro p hp
          rw [take_succ' e6] at hp
          rcases List.mem_append.mp hp with hp | hp
          · exact f4 p hp
          · rw [List.mem_singleton.mp hp]
            exact no
    · obtain ⟨⟨w4, rfl⟩, ⟨f1, f2⟩, f3, pr, f4⟩ := h
      rw [List.take_length] at pr f4
      refine ⟨f1, _, rfl, ?_⟩
      refine qy el f4 D _ (fun c o e => ?_) hD0 ?_
      · by_cases n : c = a
        · subst n
          rw [ha] at e
          cases e
          exact upd_same
        · exact (upd_ne n).trans (f2 c o n e)
      · obtain ⟨tl, g1, g2, g3⟩ := pr
        refine ⟨tl, (upd_ne nDa).trans g1, g2, fun j t p ej ep => ?_⟩
        have := g3 j t p ej ep
        rw [upd_ne fun q => by rw [q, f1] at this; cases this]
        exact this
end
end Dq

set_option Elab.async false
set_option linter.all false
set_option maxRecDepth 100000
set_option maxHeartbeats 4000000
/-! the mathematics of equal -/
namespace Dq
open PySem PySem.Spec PyProof.Rows L2
variable {OB : Type} {O : Obs OB} {K : PySem.W.Frag}
def wts (ps : List (DV OB × DV OB)) : Nat := (ps.map fun p => wt p.1).sum
theorem wts_app (a b : List (DV OB × DV OB)) : wts (a ++ b) = wts a + wts b := by simp [wts]
theorem wt_pos (x : DV OB) : 1 ≤ wt x := by
  cases x <;> simp [wt] <;> omega
theorem wts_len : ∀ ps : List (DV OB × DV OB), ps.length ≤ wts ps
  | [] => Nat.le_refl _
  | p :: ps => by
    have := wts_len ps
    have := wt_pos p.1
    simp only [wts, List.map_cons, List.sum_cons, List.length_cons] at *
    omega
theorem wts_zip : ∀ (l m : List (DV OB)), l.length = m.length → wts (l.zip m) = wtL l
  | [], [], _ => rfl
  | x :: l, y :: m, h => by
    have := wts_zip l m (Nat.succ.inj h)
    simp only [wts, List.zip_cons_cons, List.map_cons, List.sum_cons, wtL] at *
    omega
  | [], _ :: _, h => by cases h
  | _ :: _, [], h => by cases h
theorem wtL_mem : ∀ {l : List (DV OB)} {x : DV OB}, x ∈ l → wt x ≤ wtL l
  | y :: l, x, h => by
    rw [wtL]
    rcases List.mem_cons.mp h with rfl | h
    · omega
    · have := wtL_mem h
      omega
theorem eqD_ty : ∀ (x y : DV OB), tyD O x ≠ tyD O y → eqD O x y = false := fun x y h => by
  cases x <;> cases y <;> simp [tyD, eqD] at h ⊢
  exact fun e => absurd e h
theorem eqL_len : ∀ (l m : List (DV OB)), l.length ≠ m.length → eqL O l m = false
  | [], [], h => absurd rfl h
  | [], _ :: _, _ => by simp [eqL]
  | _ :: _, [], _ => by simp [eqL]
  | x :: l, y :: m, h => by
    rw [eqL, eqL_len l m fun e => h (by simp [e]), Bool.and_false]
theorem eqL_zip : ∀ (l m : List (DV OB)), l.length = m.length → eqL O l m = (l.zip m).all fun p => eqD O p.1 p.2
  | [], [], _ => by simp [eqL]
  | x :: l, y :: m, h => by
    rw [eqL, eqL_zip l m (Nat.succ.inj h)]
    rfl
  | [], _ :: _, h => by cases h
  | _ :: _, [], h => by cases h
/-- the pairs of two maps -/
def pm (js : List Str) (m : List (DV OB)) : List Str → List (DV OB) → List (DV OB × DV OB)
  | k :: ks, x :: l => (.str k, .str k) :: (x, (look js m k).getD .non) :: pm js m ks l
  | _, _ => []
theorem pm_len (js : List Str) (m : List (DV OB)) : ∀ (ks : List Str) (l : List (DV OB)), ks.length = l.length → (pm js m ks l).length = 2 * ks.length
  | [], [], _ => rfl
  | k :: ks, x :: l, h => by
    have := pm_len js m ks l (Nat.succ.inj h)
    show (pm js m ks l).length + 1 + 1 = 2 * (ks.length + 1)
    omega
  | [], _ :: _, h => by cases h
  | _ :: _, [], h => by cases h
theorem pm_wts (js : List Str) (m : List (DV OB)) : ∀ (ks : List Str) (l : List (DV OB)), ks.length = l.length → wts (pm js m ks l) = ks.length + wtL l
  | [], [], _ => rfl
  | k :: ks, x :: l, h => by
    have := pm_wts js m ks l (Nat.succ.inj h)
    have e : wts (pm js m (k :: ks) (x :: l)) = 1 + (wt x + wts (pm js m ks l)) := by simp [pm, wts, wt]
    rw [e, wtL, List.length_cons]
    omega
  | [], _ :: _, h => by cases h
  | _ :: _, [], h => by cases h
theorem look_mem : ∀ {js : List Str} {m : List (DV OB)} {k : Str} {y : DV OB}, look js m k = some y → y ∈ m
  | j :: js, x :: m, k, y, h => by
    rw [look] at h
    split at h
    · cases h
      exact List.mem_cons_self
    · exact List.mem_cons_of_mem _ (look_mem h)
  | [], _, _, _, h => by simp [look] at h
  | _ :: _, [], _, _, h => by simp [look] at h
theorem pm_snd {N : Nat} (hN : 1 ≤ N) (js : List Str) (m : List (DV OB)) (hm : wtL m ≤ N) : ∀ (ks : List Str) (l : List (DV OB)), ∀ p ∈ pm js m ks l, wt p.2 ≤ N
  | [], _, p, h => by simp [pm] at h
  | _ :: _, [], p, h => by simp [pm] at h
  | k :: ks, x :: l, p, h => by
    rw [pm] at h
    rcases List.mem_cons.mp h with rfl | h
    · exact hN
    · rcases List.mem_cons.mp h with rfl | h
      · cases e : look js m k with
        | none => exact hN
        | some y => exact Nat.le_trans (wtL_mem (look_mem e)) hm
      · exact pm_snd hN js m hm ks l p h
theorem eqM_pm (js : List Str) (m : List (DV OB)) : ∀ (ks : List Str) (l : List (DV OB)), ks.length = l.length → (∀ k ∈ ks, look js m k ≠ none) → eqM O ks l js m = (pm js m ks l).all fun p => eqD O p.1 p.2
  | [], [], _, _ => by simp [eqM, pm]
  | k :: ks, x :: l, h, hk => by
    have ih := eqM_pm js m ks l (Nat.succ.inj h) fun k' h' => hk k' (List.mem_cons_of_mem _ h')
    cases e : look js m k with
    | none => exact absurd e (hk k List.mem_cons_self)
    | some y => simp [eqM, pm, e, ih, eqD]
  | [], _ :: _, h, _ => by cases h
  | _ :: _, [], h, _ => by cases h
theorem eqM_no (js : List Str) (m : List (DV OB)) : ∀ (ks : List Str) (l : List (DV OB)), ks.length = l.length → (∃ k ∈ ks, look js m k = none) → eqM O ks l js m = false
  | [], [], _, ⟨k, h, _⟩ => by cases h
  | k :: ks, x :: l, h, ⟨z, hz, e⟩ => by
    rcases List.mem_cons.mp hz with rfl | hz
    · simp [eqM, e]
    · have ih := eqM_no js m ks l (Nat.succ.inj h) ⟨z, hz, e⟩
      simp [eqM, ih]
  | [], _ :: _, h, _ => by cases h
  | _ :: _, [], h, _ => by cases h
theorem look_val {H : Hp} {k : Str} : ∀ {js : List Str} {m : List (DV OB)} {ls : List (Key × V)}, ls.map (·.1) = js.map Sum.inr → DvL O H m (ls.map (·.2)) → (look js m k = none ∧ valV ls (.inr k) = none) ∨ ∃ y v, look js m k = some y ∧ valV ls (.inr k) = some v ∧ Dv O H y v
  | [], m, [], _, _ => .inl ⟨by simp [look], rfl⟩
  | [], _, _ :: _, h, _ => by cases h
  | _ :: _, _, [], h, _ => by cases h
  | j :: js, [], q :: ls, _, h => by cases h
  | j :: js, x :: m, q :: ls, h, ⟨u, us, e, hu, hp⟩ => by
    simp only [List.map_cons, List.cons.injEq] at h e
    obtain ⟨h1, h2⟩ := h
    obtain ⟨e1, e2⟩ := e
    subst e1
    by_cases z : k = j
    · subst z
      exact .inr ⟨x, q.2, by simp [look], valV_pos h1, hu⟩
    · have nq : ¬ q.1 = Sum.inr k := fun e => z (by rw [h1] at e; exact (Sum.inr.inj e).symm)
      rw [look, if_neg z, valV_neg nq]
      exact look_val h2 (e2 ▸ hp)
theorem pm_at {H : Hp} {js : List Str} {m : List (DV OB)} {ls : List (Key × V)} (hj : ls.map (·.1) = js.map Sum.inr) (hm : DvL O H m (ls.map (·.2))) : ∀ {ks : List Str} {l : List (DV OB)} {kvs : List (Key × V)}, kvs.map (·.1) = ks.map Sum.inr → DvL O H l (kvs.map (·.2)) →
    ∀ (j : Nat) (p : DV OB × DV OB) (q : V × V), (pm js m ks l)[j]? = some p → (podP kvs ls)[j]? = some q → (∀ k ∈ ks, look js m k ≠ none) → Dv O H p.1 q.1 ∧ Dv O H p.2 q.2
  | [], _, _, _, _, j, p, q, h, _, _ => by simp [pm] at h
  | _ :: _, [], _, _, _, j, p, q, h, _, _ => by simp [pm] at h
  | _ :: _, _ :: _, [], h, _, _, _, _, _, _, _ => by cases h
  | k :: ks, x :: l, r :: kvs, h, ⟨u, us, e, hu, hp⟩, j, p, q, g1, g2, hk => by
    simp only [List.map_cons, List.cons.injEq] at h e
    obtain ⟨h1, h2⟩ := h
    obtain ⟨e1, e2⟩ := e
    subst e1
    rw [pm] at g1
    rw [podP] at g2
    match j with
    | 0 =>
      simp only [List.getElem?_cons_zero, Option.some.injEq] at g1 g2
      subst g1 g2
      have e : kV r.1 = V.str k := by
        show kV (r.1) = _
        rw [h1]
        rfl
      rw [e]
      exact ⟨rfl, rfl⟩
    | 1 =>
      simp only [List.getElem?_cons_succ, List.getElem?_cons_zero, Option.some.injEq] at g1 g2
      subst g1 g2
      refine ⟨hu, ?_⟩
      rcases look_val (k := k) hj hm with ⟨a, _⟩ | ⟨y, v, a, b, c⟩
      · exact absurd a (hk k List.mem_cons_self)
      · rw [show (r.1 : Key) = Sum.inr k from h1, a, b]
        exact c
    | j + 2 =>
      simp only [List.getElem?_cons_succ] at g1 g2
      exact pm_at hj hm h2 (e2 ▸ hp) j p q g1 g2 fun k' h' => hk k' (List.mem_cons_of_mem _ h')
/-- two rows of one sort -/
theorem seqs {H : Hp} {x y : DV OB} {v u : V} (hx : Dv O H x v) (hy : Dv O H y u) (et : tyD O x = tyD O y) (hs : isSeq x = true) : ∃ a b us ws l m, v = .ref a ∧ u = .ref b ∧ ((∀ K, SqT K H a us ∧ SqT K H b ws) ∨ (∀ K, SqL K H a us ∧ SqL K H b ws)) ∧ ((H a = some (.tup us) ∧ H b = some (.tup ws)) ∨ (H a = some (.lst us) ∧ H b = some (.lst ws))) ∧ DvL O H l us ∧ DvL O H m ws ∧ eqD O x y = eqL O l m ∧ wt x = 1 + wtL l ∧ wt y = 1 + wtL m := by
  cases x <;> cases y <;> simp [tyD, isSeq] at et hs
  · obtain ⟨a, us, rfl, ha, p⟩ := hx
    obtain ⟨b, ws, rfl, hb, q⟩ := hy
    exact ⟨a, b, us, ws, _, _, rfl, rfl, .inl fun _ => ⟨SqT.of ha, SqT.of hb⟩, .inl ⟨ha, hb⟩, p, q, by rw [eqD], by rw [wt], by rw [wt]⟩
  · obtain ⟨a, us, rfl, ha, p⟩ := hx
    obtain ⟨b, ws, rfl, hb, q⟩ := hy
    exact ⟨a, b, us, ws, _, _, rfl, rfl, .inr fun _ => ⟨SqL.of ha, SqL.of hb⟩, .inr ⟨ha, hb⟩, p, q, by rw [eqD], by rw [wt], by rw [wt]⟩
end Dq

set_option Elab.async false
set_option linter.all false
set_option maxRecDepth 100000
set_option maxHeartbeats 4000000
/-! the program's equal -/
namespace Dq
open PySem PySem.Spec PyProof.Rows L2
abbrev sEqual : Stmt := Pf.top 1
def spEqual {OB : Type} (O : Obs OB) : Sp := fun vs H Q _ => ∃ (v u : V) (x y : DV OB), vs = [v, u] ∧ Dv O H x v ∧ Dv O H y u ∧ wt x ≤ 90000 ∧ wt y ≤ 90000 ∧ ∀ H', Same H H' → Q (.bl (eqD O x y)) H'
abbrev NEqual : List Str := ["one", "other", "waiting", "left", "right", "pairs"]
theorem scEqual : FnScope NEqual ["one", "other"] (defScope sEqual) := ⟨rfl, rfl, rfl, by decide +kernel, rfl, by decide +kernel, by decide +kernel⟩
/-- the own == of the objects, called by equal -/
structure ObEq {OB : Type} (P : Program) (w : World) (K : PySem.W.Frag) (mg : Str → Option Value) (base : Heap) (k : Nat) (O : Obs OB) : Prop where
  op : ∀ {X : Cx}, X.prog = P → X.w = w → X.K = K → X.mg = mg → X.base = base → Room k X.A → OpR X (compareOp .Eq) (rOb O)
/-- the pairs that wait in the list at W -/
structure Wait {OB : Type} (O : Obs OB) (H H' : Hp) (W : Addr) (N : Nat) (ts : List Addr) (ps : List (DV OB × DV OB)) : Prop where
  same : Same H H'
  new : H W = none
  lst : H' W = some (.lst (ts.map V.ref))
  len : ts.length = ps.length
  at_ : ∀ (j : Nat) (t : Addr) (p : DV OB × DV OB), ts[j]? = some t → ps[j]? = some p → ∃ a b, H' t = some (.tup [a, b]) ∧ Dv O H p.1 a ∧ Dv O H p.2 b
  wt1 : wts ps ≤ N
  wt2 : ∀ p ∈ ps, wt p.2 ≤ N
theorem Wait.put {OB : Type} {O : Obs OB} {H H2 H5 : Hp} {W : Addr} {N : Nat} {ts t5 : List Addr} {ps p5 : List (DV OB × DV OB)} (x : Wait O H H2 W N ts ps) (k : Same H2 H5) (hl : t5.length = p5.length) (ha : ∀ (j : Nat) (t : Addr) (p : DV OB × DV OB), t5[j]? = some t → p5[j]? = some p → ∃ a b, H5 t = some (.tup [a, b]) ∧ Dv O H p.1 a ∧ Dv O H p.2 b)
    (h1 : wts ps + wts p5 ≤ N) (h2 : ∀ p ∈ p5, wt p.2 ≤ N) : Wait O H (upd H5 W (.lst (ts.map V.ref ++ t5.map V.ref))) W N (ts ++ t5) (ps ++ p5) := by
  have nW : ∀ t o, H5 t = some o → (∀ xs, o ≠ .lst xs) → upd H5 W (.lst (ts.map V.ref ++ t5.map V.ref)) t = some o := fun t o e n => by
    rw [upd_ne fun q => by
      rw [q, k _ _ x.lst] at e
      cases e
      exact n _ rfl]
    exact e
  refine ⟨fun c o e => ?_, x.new, by rw [upd_same, List.map_append], by rw [List.length_append, List.length_append, x.len, hl], fun j t p ej ep => ?_, by rw [wts_app]; exact h1, fun p hp => ?_⟩
  · rw [upd_ne fun q => by rw [q, x.new] at e; cases e]
    exact k _ _ (x.same _ _ e)
  · by_cases lt : j < ts.length
    · rw [List.getElem?_append_left lt] at ej
      rw [List.getElem?_append_left (by rw [← x.len]; exact lt)] at ep
      obtain ⟨a, b, e1, e2⟩ := x.at_ j t p ej ep
      exact ⟨a, b, nW _ _ (k _ _ e1) (fun _ z => by cases z), e2⟩
    · have ge : ts.length ≤ j := Nat.le_of_not_lt lt
      rw [List.getElem?_append_right ge] at ej
      rw [List.getElem?_append_right (by rw [← x.len]; exact ge), ← x.len] at ep
      obtain ⟨a, b, e1, e2⟩ := ha _ t p ej ep
      exact ⟨a, b, nW _ _ e1 (fun _ z => by cases z), e2⟩
  · rcases List.mem_append.mp hp with hp | hp
    · exact x.wt2 p hp
    · exact h2 p hp
section
variable {OB : Type} {O : Obs OB} {P : Program} {w : World} {K : PySem.W.Frag} {mg : Str → Option Value} {base : Heap}
theorem ok_equal {n : Nat} (hn : 1 ≤ n) {f fP : Addr} {fd fdP : FuncData} (F : Fun K "equal" "equal" sEqual f fd) (T : TxtE mg) (ok : ObsOk K O) (oe : ObEq P w K mg base n O) (DP : Vl.Def P w K mg base 1 "_pairs_of_dicts" fP fdP ["one", "other"] spPod) : FnOk P w K mg base CX0 (n + 1) f fd ["one", "other"] (spEqual O) := by
  refine F.ok scEqual (fun vs H Q E h => ?_) (fun cdv A outer s H vs Q E hr h => ?_)
  · obtain ⟨v, u, x, y, rfl, _⟩ := h
    rfl
  · obtain ⟨v, u, x, y, rfl, hx, hy, wx, wy, k⟩ := h
    refine ⟨_, (pss_cons (ps_set (i := 2) scEqual.nd rfl (Or.inl rfl) (pe_lst (pa_cons (pe_tup (pa_cons (pv 0) (pa_cons (pv 1) pa_nil))) pa_nil)))
      (pss_cons (ps_while PassesOwn.never (pt_truth (pv 2) (by intro _; rfl))
        (pss_cons (ps_asg (pe_bm0 PySem.F.plainAttrs_list PySem.F.slot_list_pop PySem.F.type_list_pop mt_pop (pv 2)) (pg_tup rfl (pgs_cons (pg_name (i := 3) scEqual.nd rfl (Or.inl rfl)) (pgs_cons (pg_name (i := 4) scEqual.nd rfl (Or.inl rfl)) pgs_nil))))
        (pss_cons (ps_if (pt_not (pt_cmpR (op_isD ok) (pe_callTy (call_tyD ok) (by rfl) T.type (by decide +kernel) (pa_cons (pv 3) pa_nil)) (pe_callTy (call_tyD ok) (by rfl) T.type (by decide +kernel) (pa_cons (pv 4) pa_nil)) (nomark _))) (pss_one (ps_ret pe_bl)) pss_nil)
        (pss_one (ps_if (pt_val (pe_callB (call_isTL ok) (by rfl) T.isi (by decide +kernel) (pa_cons (pv 3) (pa_cons (pe_tup (pa_cons (pe_bltn (v := .ty "tuple") (by rfl) T.tuple (by decide +kernel) rfl) (pa_cons (pe_bltn (v := .ty "list") (by rfl) T.list (by decide +kernel) rfl) pa_nil))) pa_nil))))
          (pss_cons (ps_if (pt_cmpR op_ne (pe_callB call_len_seq (by rfl) T.len PySem.boot_len (pa_cons (pv 3) pa_nil)) (pe_callB call_len_seq (by rfl) T.len PySem.boot_len (pa_cons (pv 4) pa_nil)) (nomark _)) (pss_one (ps_ret pe_bl)) pss_nil)
          (pss_one (ps_expr (pe_bm PySem.F.plainAttrs_list PySem.F.slot_list_extend PySem.F.type_list_extend mt_extend (pv 2) (pa_cons (Lz.pe_listZip rfl (pa_cons (pv 3) (pa_cons (pv 4) pa_nil)) (by rfl) T.list (by rfl) T.zip) pa_nil)))))
          (pss_one (ps_if (pt_val (pe_callB (call_isD ok) (by rfl) T.isi (by decide +kernel) (pa_cons (pv 3) (pa_cons (pe_bltn (v := .ty "dict") (by rfl) T.dict (by decide +kernel) rfl) pa_nil))))
            (pss_cons (ps_set (i := 5) scEqual.nd rfl (Or.inl rfl) (pe_call DP.ok (hr.mono hn) rfl DP.g DP.kp DP.b .nil pass0 (pa_cons (pv 3) (pa_cons (pv 4) pa_nil))))
            (pss_cons (ps_if (pt_cmpR op_isN (pv 5) pe_non (nomark _)) (pss_one (ps_ret pe_bl)) pss_nil)
            (pss_one (ps_expr (pe_bm PySem.F.plainAttrs_list PySem.F.slot_list_extend PySem.F.type_list_extend mt_extend (pv 2) (pa_cons (pv 5) pa_nil))))))
            (pss_one (ps_if (pt_not (pt_cmpR (op_leaf hr.units (oe.op rfl rfl rfl rfl rfl hr)) (pv 3) (pv 4) (nomark _))) (pss_one (ps_ret pe_bl)) pss_nil)))))))))
      (pss_one (ps_ret pe_bl)))), ?_⟩
    have fin : ∀ H', Same H H' → ∀ b, eqD O x y = b → Q (.bl b) H' := fun H' k' b e => e ▸ k H' k'
    refine ⟨_, rfl, _, rfl, by show 2 ≤ sizeLine; decide, fun t ht => ⟨by show 1 ≤ sizeLine; decide, fun W hW => ?_⟩⟩
    have ntW : t ≠ W := fun e => by rw [← e, upd_same] at hW; cases hW
    have hW0 : H W = none := by rwa [upd_ne (Ne.symm ntW)] at hW
    have w0 : Wait O H (upd (upd H t (.tup [v, u])) W (.lst [.ref t])) W 90000 [t] [(x, y)] := by
      refine ⟨fun c o e => by rw [upd_ne (ne_of_none e hW0), upd_ne (ne_of_none e ht)]; exact e, hW0, upd_same, rfl, fun j t' p ej ep => ?_, by simpa [wts] using wx, fun p hp => by rw [List.mem_singleton.mp hp]; exact wy⟩
      match j with
      | 0 =>
        simp at ej ep
        subst ej ep
        exact ⟨v, u, (upd_ne ntW).trans upd_same, hx, hy⟩
      | j + 1 => simp at ej
    refine ⟨fun m σ H' => ∃ ts ps w3 w4 w5, m = wts ps ∧ σ = [some v, some u, some (.ref W), w3, w4, w5] ∧ Wait O H H' W 90000 ts ps ∧ eqD O x y = ps.all fun p => eqD O p.1 p.2, ⟨_, [t], [(x, y)], _, _, _, rfl, rfl, w0, by simp⟩, ?_⟩
    rintro m σ H' ⟨ts, ps, w3, w4, w5, rfl, rfl, wa, er⟩
    rcases List.eq_nil_or_concat ps with rfl | ⟨ps', p, rfl⟩
    · have e0 : ts = [] := List.eq_nil_of_length_eq_zero wa.len
      subst e0
      refine ⟨_, rfl, false, .inl ⟨_, SqL.of wa.lst, rfl⟩, ?_⟩
      exact fin H' wa.same _ er
    obtain ⟨ts', tl, rfl⟩ : ∃ ts' tl, ts = ts' ++ [tl] := by
      rcases List.eq_nil_or_concat ts with rfl | ⟨a, b, e⟩
      · have := wa.len
        simp at this
      · exact ⟨a, b, e.trans (List.concat_eq_append ..)⟩
    rw [List.concat_eq_append] at *
    have hl' : ts'.length = ps'.length := by
      have := wa.len
      simpa using this
    obtain ⟨a, b, ht2, d1, d2⟩ := wa.at_ ts'.length tl p (by simp) (by rw [hl']; simp)
    have hWl : H' W = some (.lst (ts'.map V.ref ++ [.ref tl])) := by rw [wa.lst]; simp
    refine ⟨_, rfl, true, .inl ⟨_, SqL.of hWl, by simp⟩, fun σ' H2 => ∃ m', m' < wts (ps' ++ [p]) ∧ ∃ ts ps w3 w4 w5, m' = wts ps ∧ σ' = [some v, some u, some (.ref W), w3, w4, w5] ∧ Wait O H H2 W 90000 ts ps ∧ eqD O x y = ps.all fun p => eqD O p.1 p.2, fun σ' H2 h => h, ?_⟩
    refine ⟨_, rfl, .inl ⟨rfl, _, SqL.of hWl⟩, W, _, .ref tl, rfl, rfl, hWl, by simp, ?_⟩
    rw [List.dropLast_concat]
    have ntl : tl ≠ W := fun e => by rw [e, hWl] at ht2; cases ht2
    have er' : eqD O x y = ((ps'.all fun p => eqD O p.1 p.2) && eqD O p.1 p.2) := by rw [er]; simp
    have wp : wts (ps' ++ [p]) = wts ps' + wt p.1 := by rw [wts_app]; simp [wts]
    have wp1 : wts ps' + wt p.1 ≤ 90000 := wp ▸ wa.wt1
    have wp2 : wt p.2 ≤ 90000 := wa.wt2 p (by simp)
    have wb : Wait O H (upd H' W (.lst (ts'.map V.ref))) W 90000 ts' ps' := by
      refine ⟨fun c o e => ?_, wa.new, upd_same, hl', fun j t p ej ep => ?_, by omega, fun p hp => wa.wt2 p (List.mem_append_left _ hp)⟩
      · rw [upd_ne (ne_of_none e wa.new)]
        exact wa.same _ _ e
      · obtain ⟨a, b, e1, e2⟩ := wa.at_ j t p (by rw [List.getElem?_append_left (List.getElem?_eq_some_iff.mp ej).1]; exact ej) (by rw [List.getElem?_append_left (List.getElem?_eq_some_iff.mp ep).1]; exact ep)
        refine ⟨a, b, ?_, e2⟩
        rw [upd_ne fun q => by rw [q, hWl] at e1; cases e1]
        exact e1
    have ht3 : upd H' W (.lst (ts'.map V.ref)) tl = some (.tup [a, b]) := (upd_ne ntl).trans ht2
    clear wa hWl ht2 w0 hW
    generalize upd H' W (.lst (ts'.map V.ref)) = H2 at wb ht3
    refine ⟨tl, _, rfl, SqT.of ht3, rfl, _, _, rfl, _, _, rfl, rfl, ?_⟩
    have D1 := d1.keep ok wb.same
    have D2 := d2.keep ok wb.same
    refine ⟨_, rfl, _, p.1, rfl, D1, _, rfl, _, p.2, rfl, D2, p.1, p.2, rfl, rfl, _, rfl, ?_⟩
    by_cases et : tyD O p.1 = tyD O p.2
    case neg =>
      refine Vl.iteC (by simp [et]) ?_
      exact fin H2 wb.same _ (by rw [er', eqD_ty _ _ et, Bool.and_false])
    refine Vl.iteN (by simp [et]) ?_
    refine ⟨_, rfl, by show 2 ≤ sizeLine; decide, fun tp htp => ⟨_, tp, p.1, rfl, upd_same, D1.keep ok (Vl.sm_upd htp), _, rfl, ?_⟩⟩
    have k3 : Same H2 (upd H2 tp (.tup [.ty "tuple", .ty "list"])) := Vl.sm_upd htp
    have sm3 := Same.trans wb.same k3
    have E1 := d1.keep ok sm3
    have E2 := d2.keep ok sm3
    generalize upd H2 tp (.tup [.ty "tuple", .ty "list"]) = H3 at k3 sm3 E1 E2
    by_cases hs : isSeq p.1 = true
    · refine Vl.iteC hs ?_
      obtain ⟨a', b', us, ws, l, m, rfl, rfl, hab, _, dl, dm, ee, e1, e2⟩ := seqs E1 E2 et hs
      obtain ⟨a2, b2, us2, ws2, l2, m2, ea, eb, hab2, hT2, dl2, dm2, ee2, e12, e22⟩ := seqs d1 d2 et hs
      cases ea
      cases eb
      have luo := dl2.len
      have lwo := dm2.len
      have hq : ∀ H', Same H H' → ((SqT K H' a' us2 ∧ SqT K H' b' ws2) ∨ (SqL K H' a' us2 ∧ SqL K H' b' ws2)) := fun H' k' => by
        rcases hT2 with ⟨h1, h2⟩ | ⟨h1, h2⟩
        · exact .inl ⟨SqT.of (k' _ _ h1), SqT.of (k' _ _ h2)⟩
        · exact .inr ⟨SqL.of (k' _ _ h1), SqL.of (k' _ _ h2)⟩
      have hq3 := hq H3 sm3
      refine ⟨_, rfl, a', us2, rfl, hq3.elim (fun z => .inr z.1) (fun z => .inl z.1), _, rfl, b', ws2, rfl, hq3.elim (fun z => .inr z.2) (fun z => .inl z.2), rfl, _, rfl, ?_⟩
      by_cases le : us2.length = ws2.length
      case neg =>
        refine Vl.iteC (by simp; omega) ?_
        exact fin H3 sm3 _ (by rw [er', ee2, eqL_len l2 m2 (by omega), Bool.and_false])
      refine Vl.iteN (by simp [le]) ?_
      refine ⟨_, rfl, .inl ⟨rfl, _, SqL.of (k3 _ _ wb.lst)⟩, _, rfl, _, rfl, a', b', us2, ws2, rfl, hq3, le, fun H5 D ds z => ?_⟩
      obtain ⟨z1, z2, z3, z4, z5, z6, z7⟩ := z
      have wL : wts (l2.zip m2) = wtL l2 := wts_zip l2 m2 (by omega)
      have lenb := wts_len ps'
      have lenl := wts_len (l2.zip m2)
      have lz : (l2.zip m2).length = l2.length := by rw [List.length_zip]; omega
      refine ⟨W, D, _, _, rfl, rfl, z1 _ _ (k3 _ _ wb.lst), z5, by rw [List.length_map, List.length_map]; exact Nat.le_trans (show ts'.length + ds.length ≤ 90000 by omega) (by decide), ?_⟩
      refine ⟨_, ?_, ts' ++ ds, ps' ++ l2.zip m2, _, _, _, rfl, rfl, wb.put (Same.trans k3 z1) (by omega) (fun j t q ej ep => ?_) (by omega) (fun q hq => ?_), ?_⟩
      · rw [wp, wts_app, wL]
        omega
      · obtain ⟨x0, y0, f1, f2, f3⟩ := z7 j t ej
        obtain ⟨g1, g2⟩ := List.getElem?_zip_eq_some.mp ep
        exact ⟨x0, y0, f3, dl2.at g1 f1, dm2.at g2 f2⟩
      · have := wtL_mem (List.of_mem_zip hq).2
        omega
      · rw [er', ee2, eqL_zip l2 m2 (by omega), List.all_append]
    refine Vl.iteN ((Bool.not_eq_true _).mp hs) ?_
    refine ⟨_, rfl, _, p.1, rfl, E1, _, rfl, ?_⟩
    by_cases hm : isMap p.1 = true
    · refine Vl.iteC hm ?_
      obtain ⟨ks, l, e1⟩ : ∃ ks l, p.1 = .map ks l := by
        cases e : p.1 <;> rw [e] at hm <;> simp [isMap] at hm
        exact ⟨_, _, rfl⟩
      obtain ⟨js, m, e2⟩ : ∃ js m, p.2 = .map js m := by
        rw [e1] at et
        cases e : p.2 <;> rw [e] at et <;> simp [tyD] at et
        exact ⟨_, _, rfl⟩
      rw [e1] at d1
      rw [e2] at d2
      obtain ⟨a1, kvs, rfl, ha, nd, hk, dl⟩ := d1
      obtain ⟨b1, lvs, rfl, hb, nd2, hj, dm⟩ := d2
      have q1 : wt p.1 = 1 + ks.length + wtL l := by rw [e1, wt]
      have q2 : wt p.2 = 1 + js.length + wtL m := by rw [e2, wt]
      have lk : kvs.length = ks.length := by have := congrArg List.length hk; simpa using this
      have lj : lvs.length = js.length := by have := congrArg List.length hj; simpa using this
      have ll : ks.length = l.length := by have := dl.len; rw [List.length_map] at this; omega
      have ee : eqD O p.1 p.2 = (decide (ks.length = js.length) && eqM O ks l js m) := by rw [e1, e2, eqD]
      have ndk : (kvs.map (·.1)).Nodup := by
        rw [hk]
        exact List.Pairwise.map _ (fun a b h z => h (Sum.inr.inj z)) nd
      have mk : ∀ (k : Key), k ∈ kvs.map (·.1) ↔ ∃ z ∈ ks, k = Sum.inr z := fun k => by
        rw [hk]
        simp [eq_comm]
      refine ⟨_, rfl, _, rfl, a1, b1, kvs, lvs, rfl, sm3 _ _ ha, sm3 _ _ hb, ndk, by omega, by omega, fun no H5 k5 => ?_, fun yl yk D H5 k5 hD pr => ?_⟩
      · refine ⟨_, rfl, rfl, _, rfl, Vl.iteC (by simp) ?_⟩
        refine fin H5 (Same.trans sm3 k5) _ ?_
        rw [er', ee]
        rcases no with no | ⟨q, hq, hv⟩
        · rw [decide_eq_false (by omega)]
          simp
        · obtain ⟨z, hz, eq⟩ := (mk q.1).mp (List.mem_map_of_mem (f := (·.1)) hq)
          rcases look_val (O := O) (k := z) hj dm with ⟨c1, _⟩ | ⟨_, _, _, c2, _⟩
          · rw [eqM_no js m ks l ll ⟨z, hz, c1⟩]
            simp
          · rw [eq, c2] at hv
            cases hv
      · refine ⟨_, rfl, rfl, _, rfl, Vl.iteN (by simp) ?_⟩
        have hall : ∀ k ∈ ks, look js m k ≠ none := fun k hk' e => by
          obtain ⟨q, hq, eq⟩ := List.mem_map.mp ((mk (Sum.inr k)).mpr ⟨k, hk', rfl⟩)
          rcases look_val (O := O) (k := k) hj dm with ⟨_, c1⟩ | ⟨_, _, c2, _, _⟩
          · exact yk q hq (by rw [eq]; exact c1)
          · rw [c2] at e
            cases e
        obtain ⟨ds, r1, r2, r3⟩ := pr
        have hW5 := k5 _ _ (k3 _ _ wb.lst)
        have lp := podP_len kvs lvs
        have pl := pm_len js m ks l ll
        have pw := pm_wts js m ks l ll
        have lenb := wts_len ps'
        refine ⟨_, rfl, .inl ⟨rfl, _, SqL.of hW5⟩, _, rfl, W, D, _, _, rfl, rfl, hW5, r1, by rw [List.length_map, List.length_map]; exact Nat.le_trans (show ts'.length + ds.length ≤ 300000 by omega) (by decide), ?_⟩
        refine ⟨_, ?_, ts' ++ ds, ps' ++ pm js m ks l, _, _, _, rfl, rfl, wb.put (Same.trans k3 k5) (by omega) (fun j t q ej ep => ?_) (by omega) (fun q hq => ?_), ?_⟩
        · rw [wp, wts_app, pw]
          omega
        · have hj2 : j < (podP kvs lvs).length := by
            have := (List.getElem?_eq_some_iff.mp ej).1
            omega
          have eq := List.getElem?_eq_getElem hj2
          obtain ⟨c1, c2⟩ := pm_at hj dm hk dl j q _ ep eq hall
          exact ⟨_, _, r3 j t _ ej eq, c1, c2⟩
        · exact pm_snd (by decide) js m (by omega) ks l q hq
        · rw [er', ee, decide_eq_true (by omega), Bool.true_and, eqM_pm js m ks l ll hall, List.all_append]
    refine Vl.iteN ((Bool.not_eq_true _).mp hm) ?_
    refine ⟨_, rfl, _, rfl, p.1, p.2, E1, E2, et, (Bool.not_eq_true _).mp hs, (Bool.not_eq_true _).mp hm, fun H5 k5 => ⟨_, rfl, ?_⟩⟩
    have sm5 := Same.trans sm3 k5
    cases ev : eqD O p.1 p.2 with
    | false => exact fin H5 sm5 _ (by rw [er', ev, Bool.and_false])
    | true =>
      have wpo := wt_pos p.1
      refine ⟨_, ?_, ts', ps', _, _, _, rfl, rfl, ?_, by rw [er', ev, Bool.and_true]⟩
      · rw [wp]
        omega
      · have := wb.put (t5 := []) (p5 := []) (Same.trans k3 k5) rfl (fun j t q ej _ => by simp at ej) (by simpa [wts] using wb.wt1) (fun q hq => by cases hq)
        simp only [List.map_nil, List.append_nil] at this
        have e5 : upd H5 W (.lst (ts'.map V.ref)) = H5 := by
          funext c
          by_cases n : c = W
          · rw [n, upd_same]
            exact (Same.trans k3 k5 _ _ wb.lst).symm
          · exact upd_ne n
        rwa [e5] at this
end
end Dq

set_option Elab.async false
set_option linter.all false
set_option maxRecDepth 100000
set_option maxHeartbeats 4000000
namespace St
open PySem PySem.Spec PyProof.Rows L2 Dq Vl
abbrev sFresh : Stmt := Pf.top 10
abbrev NFresh : List Str := ["value", "part", "key"]
theorem scFresh : FnScope NFresh ["value"] (defScope sFresh) := ⟨rfl, rfl, rfl, by decide +kernel, rfl, by decide +kernel, by decide +kernel⟩
/-- values without objects -/
def O0 : Obs Empty := ⟨fun _ o _ => Empty.elim o, fun o => Empty.elim o, fun o _ => Empty.elim o⟩
theorem O0ok {K : PySem.W.Frag} : ObsOk K O0 := ⟨fun {_ _ o _} => Empty.elim o, fun {_ o _} => Empty.elim o, fun o => Empty.elim o, fun o => Empty.elim o, fun o => Empty.elim o⟩
/-- isinstance(x, T), T one of the three -/
theorem call_is3 {OB : Type} {O : Obs OB} {X : Cx} (ok : ObsOk X.K O) {T : String} (hT : T ∈ ["list", "dict", "tuple"]) : CallR X (.builtin "isinstance") (fun xs H Q => ∃ v x, xs = [v, .ty T] ∧ Dv O H x v ∧ Q (.bl (decide (tyD O x = .ty T))) H) := fun pins s σ H xs us Q I r ⟨v, x, e, h, q⟩ =>
  call_isi pins s σ H xs us Q I r ⟨v, .ty T, tyU O x, .type T, _, e, .ty T, h.ty ok, kit_one ok x hT, q⟩
def spFr0 : Sp := fun vs H Q _ => ∃ i : Int, vs = [.int i] ∧ Q (.int i) H
/-- a dict of whole numbers: a new one like it -/
def spFr1 : Sp := fun vs H Q _ => ∃ (a : Addr) (kvs : List (Key × V)), vs = [.ref a] ∧ H a = some (.dK kvs) ∧ kvs.length ≤ 1000 ∧ (kvs.map (·.1)).Nodup ∧ (∀ p ∈ kvs, ∃ i, p.2 = V.int i) ∧ ∀ p H', Same H H' → H p = none → H' p = some (.dK kvs) → Q (.ref p) H'
structure TxtF (mg : Str → Option Value) : Prop where
  isi : mg "isinstance" = none
  tuple : mg "tuple" = none
  dict : mg "dict" = none
theorem put_take {kvs : List (Key × V)} (nd : (kvs.map (·.1)).Nodup) {i : Nat} {k : Key} {v : V} (h : kvs[i]? = some (k, v)) : putK (kvs.take i) k v = kvs.take (i + 1) := by
  rw [take_succ' h]
  refine putK_new v ?_
  have hi : i < kvs.length := (List.getElem?_eq_some_iff.mp h).1
  have e : kvs = kvs.take i ++ (k, v) :: kvs.drop (i + 1) := by
    have := (List.take_append_drop i kvs).symm
    rw [List.drop_eq_getElem_cons hi, (List.getElem?_eq_some_iff.mp h).2] at this
    exact this
  rw [e, List.map_append, List.map_cons] at nd
  have nk : ¬ k ∈ (kvs.take i).map (·.1) := fun hm => (List.nodup_append.mp nd).2.2 _ hm _ List.mem_cons_self rfl
  unfold valV
  rw [Option.map_eq_none_iff, List.find?_eq_none]
  intro p hp
  simp only [decide_eq_true_eq]
  exact fun q => nk (q ▸ List.mem_map_of_mem (f := (·.1)) hp)
section
variable {P : Program} {w : World} {K : PySem.W.Frag} {mg : Str → Option Value} {base : Heap}
theorem ok_fr {f : Addr} {fd : FuncData} {k : Nat} {sp : Sp} (F : Fun K "fresh" "fresh" sFresh f fd) (T : TxtF mg) (DF : Def P w K mg base k "fresh" f fd ["value"] spFr0) : FnOk P w K mg base CX0 (k + 1) f fd ["value"] spFr1 := by
  refine F.ok scFresh (fun vs H Q E h => ?_) (fun cdv A outer s H vs Q E hr h => ?_)
  · obtain ⟨a, kvs, rfl, _⟩ := h
    rfl
  · obtain ⟨a, kvs, rfl, ha, hl, nd, hi, q⟩ := h
    have hD : Dv O0 H (.map [] []) (.ref a) → True := fun _ => True.intro
    refine ⟨_, (pss_cons (ps_if (pt_val (pe_callB call_isi (by rfl) T.isi (by decide +kernel) (pa_cons (pv 0) (pa_cons (pe_bltn (v := .ty "tuple") (by rfl) T.tuple (by decide +kernel) rfl) pa_nil))))
        (pss_one ps_never) pss_nil)
      (pss_cons (ps_if (pt_val (pe_callB call_isi (by rfl) T.isi (by decide +kernel) (pa_cons (pv 0) (pa_cons (pe_bltn (v := .ty "dict") (by rfl) T.dict (by decide +kernel) rfl) pa_nil))))
        (pss_one (ps_ret (pe_lock (pe_dc (own := [("key", 2)]) (g := gName 2) (tt := tYes) rfl scFresh.nd (pi_keys (pv 0)) (blkOk_by (N := NFresh) (sc := defScope sFresh) (by decide +kernel)) (fun _ _ _ _ _ => pg_name (i := 2) scFresh.nd rfl (Or.inl rfl)) (fun _ _ _ _ _ => pts_nil) (fun _ _ _ _ _ => pv 2)
          (fun _ _ _ _ _ => (pe_call DF.ok hr rfl DF.g DF.kp DF.b .nil pass0 (pa_cons (pe_dget (hu_of hr) (pv 0) (pv 2) (fun _ _ => rfl)) pa_nil))))))) pss_nil)
      (pss_one ps_never))), ?_⟩
    refine ⟨_, rfl, .ref a, .ty "tuple", .type "dict", .type "tuple", false, rfl, .ty _, .base (.dK ha), kit_ty (by decide +kernel), _, rfl, iteN rfl ?_⟩
    refine ⟨_, rfl, .ref a, .ty "dict", .type "dict", .type "dict", true, rfl, .ty _, .base (.dK ha), kit_ty (by decide +kernel), _, rfl, iteC rfl ?_⟩
    refine ⟨a, .dK kvs, ha, True.intro, fun od => ⟨_, rfl, a, od, rfl, .inl ⟨kvs, upd_same, fun D hD => ?_⟩⟩⟩
    have nDa : D ≠ a := fun e => by rw [e, upd_same] at hD; cases hD
    have hD0 : H D = none := by rwa [upd_ne nDa] at hD
    refine Sd.dc_it (walk_keys (d := a) (o := od) (kvs := kvs)) (fun i H' => (H' a = some (.frz od (.dK kvs)) ∧ ∀ c o, c ≠ a → H c = some o → H' c = some o) ∧ H' D = some (.dK (kvs.take i)))
      ⟨⟨(upd_ne (Ne.symm nDa)).trans upd_same, fun c o n e => (upd_ne (ne_of_none e hD0)).trans ((upd_ne n).trans e)⟩, upd_same⟩ (fun i H' _ h => h.1.1) (fun i x H2 H3 hlt h y => ?_) (fun H2 h => ?_)
    · obtain ⟨⟨e1, e2⟩, e3⟩ := h
      obtain ⟨rfl, k, v, e6, rfl⟩ := y
      obtain ⟨j, ej⟩ := hi _ (List.mem_of_getElem? e6)
      replace ej : v = V.int j := ej
      subst ej
      refine ⟨rfl, _, rfl, _, rfl, _, rfl, a, V.int j, rfl, .inl ⟨kvs, k, .inr ⟨od, e1⟩, rfl, (find_at nd e6).symm⟩, j, rfl, kvs.take i, k, rfl, e3, Nat.lt_of_le_of_lt (Nat.le_trans (List.length_take_le' _ _) hl) (show 1000 < sizeLine by decide), ⟨(upd_ne (Ne.symm nDa)).trans e1, fun c o n e => (upd_ne (ne_of_none e hD0)).trans (e2 c o n e)⟩, ?_⟩
      rw [upd_same, put_take nd e6]
    · obtain ⟨⟨e1, e2⟩, e3⟩ := h
      rw [List.take_length] at e3
      refine ⟨e1, q D _ (fun c o e => ?_) hD0 ((upd_ne nDa).trans e3)⟩
      by_cases n : c = a
      · subst n
        rw [ha] at e
        cases e
        exact upd_same
      · exact (upd_ne n).trans (e2 c o n e)
theorem ok_fr0 {f : Addr} {fd : FuncData} (F : Fun K "fresh" "fresh" sFresh f fd) (T : TxtF mg) : FnOk P w K mg base CX0 1 f fd ["value"] spFr0 := by
  refine F.ok scFresh (fun vs H Q E h => ?_) (fun cdv A outer s H vs Q E hr h => ?_)
  · obtain ⟨i, rfl, _⟩ := h
    rfl
  · obtain ⟨i, rfl, q⟩ := h
    refine ⟨_, (pss_cons (ps_if (pt_val (pe_callB call_isi (by rfl) T.isi (by decide +kernel) (pa_cons (pv 0) (pa_cons (pe_bltn (v := .ty "tuple") (by rfl) T.tuple (by decide +kernel) rfl) pa_nil))))
        (pss_one ps_never) pss_nil)
      (pss_cons (ps_if (pt_val (pe_callB call_isi (by rfl) T.isi (by decide +kernel) (pa_cons (pv 0) (pa_cons (pe_bltn (v := .ty "dict") (by rfl) T.dict (by decide +kernel) rfl) pa_nil))))
        (pss_one ps_never) pss_nil)
      (pss_one (ps_ret (pv 0))))), ?_⟩
    refine ⟨_, rfl, .int i, .ty "tuple", .type "int", .type "tuple", false, rfl, .ty _, .base (.int i), kit_ty (by decide +kernel), _, rfl, iteN rfl ?_⟩
    refine ⟨_, rfl, .int i, .ty "dict", .type "int", .type "dict", false, rfl, .ty _, .base (.int i), kit_ty (by decide +kernel), _, rfl, iteN rfl ?_⟩
    exact ⟨_, rfl, q⟩
end
end St

set_option Elab.async false
set_option linter.all false
set_option maxRecDepth 100000
set_option maxHeartbeats 4000000
/-! State: its making, its parts, its == -/
namespace St
open PySem PySem.Spec PyProof.Rows L2 Dq Vl
abbrev sSInit : Stmt := inClass (Pf.top 12) 0
abbrev sParts : Stmt := inClass (Pf.top 12) 1
abbrev sVEq : Stmt := inClass (Pf.top 3) 1
abbrev NSInit : List Str := ["self", "objects", "deposed", "outputs", "serial"]
theorem scSInit : FnScope NSInit NSInit (defScope sSInit) := ⟨rfl, rfl, rfl, by decide +kernel, rfl, by decide +kernel, by decide +kernel⟩
theorem scParts : FnScope ["self"] ["self"] (defScope sParts) := ⟨rfl, rfl, rfl, by decide +kernel, rfl, by decide +kernel, by decide +kernel⟩
theorem scVEq : FnScope ["self", "other"] ["self", "other"] (defScope sVEq) := ⟨rfl, rfl, rfl, by decide +kernel, rfl, by decide +kernel, by decide +kernel⟩
theorem lk_hd {f : Str} {v : V} {r : List (Str × V)} : ((f, v) :: r).lookup f = some v := by simp [List.lookup]
theorem lk_tl {f g : Str} {v : V} {r : List (Str × V)} (h : (f == g) = false) : ((g, v) :: r).lookup f = r.lookup f := by simp [List.lookup, h]
theorem putF_nil {f : Str} {v : V} : putF f v [] = [(f, v)] := rfl
theorem putF_tl {f g : Str} {v x : V} {r : List (Str × V)} (h : ¬ g = f) : putF f v ((g, x) :: r) = (g, x) :: putF f v r := if_neg h
abbrev flds (o d u : Addr) (s : Int) : List (Str × V) := [("objects", .ref o), ("deposed", .ref d), ("outputs", .ref u), ("serial", .int s)]
theorem flds_mk (o d u : Addr) (s : Int) : putF "serial" (.int s) (putF "outputs" (.ref u) (putF "deposed" (.ref d) (putF "objects" (.ref o) []))) = flds o d u s := by
  simp only [putF, if_neg (show ¬ ("objects" : Str) = "deposed" by decide +kernel), if_neg (show ¬ ("objects" : Str) = "outputs" by decide +kernel), if_neg (show ¬ ("objects" : Str) = "serial" by decide +kernel), if_neg (show ¬ ("deposed" : Str) = "outputs" by decide +kernel), if_neg (show ¬ ("deposed" : Str) = "serial" by decide +kernel), if_neg (show ¬ ("outputs" : Str) = "serial" by decide +kernel)]
abbrev kOut : Key := .inr "out"
/-- a State stands at a: what its outputs hold, its serial -/
def StAt (C : Addr) (H : Hp) (a : Addr) (n s : Int) : Prop := ∃ dx o d u, H a = some (.ins C dx (flds o d u s)) ∧ H o = some (.dK []) ∧ H d = some (.dK []) ∧ H u = some (.dK [(kOut, .int n)])
theorem StAt.keep {C : Addr} {H H' : Hp} {a : Addr} {n s : Int} (h : StAt C H a n s) (k : Same H H') : StAt C H' a n s := by
  obtain ⟨dx, o, d, u, h1, h2, h3, h4⟩ := h
  exact ⟨dx, o, d, u, k _ _ h1, k _ _ h2, k _ _ h3, k _ _ h4⟩
structure TxtS (K : PySem.W.Frag) (mg : Str → Option Value) (C : Addr) : Prop where
  cl : Cls K C
  nO : NoAttr K C "objects"
  nD : NoAttr K C "deposed"
  nU : NoAttr K C "outputs"
  nS : NoAttr K C "serial"
  mg : mg "State" = some (.ref C)
def spSInit (C : Addr) : Sp := fun vs H Q _ => ∃ (a dx o d u : Addr) (n s : Int), vs = [.ref a, .ref o, .ref d, .ref u, .int s] ∧ H a = some (.ins C dx []) ∧ H o = some (.dK []) ∧ H d = some (.dK []) ∧ H u = some (.dK [(kOut, .int n)]) ∧
  ∀ H', (∀ b x, H b = some x → b ≠ a → H' b = some x) → StAt C H' a n s → Q .non H'
/-- the data of a State's parts -/
def stD (n s : Int) : DV Empty := .tup [.map [] [], .map [] [], .map ["out"] [.int n], .int s]
def spParts (C : Addr) : Sp := fun vs H Q _ => ∃ (a : Addr) (n s : Int), vs = [.ref a] ∧ StAt C H a n s ∧ ∀ v H', Same H H' → Dv O0 H' (stD n s) v → Q v H'
section
variable {P : Program} {w : World} {K : PySem.W.Frag} {mg : Str → Option Value} {base : Heap} {C : Addr}
theorem ok_sinit {f fF : Addr} {fd fdF : FuncData} (F : Fun K "__init__" "State.__init__" sSInit f fd) (T : TxtS K mg C) (DF : Def P w K mg base 2 "fresh" fF fdF ["value"] spFr1) : FnOk P w K mg base CX0 3 f fd NSInit (spSInit C) := by
  refine F.ok scSInit (fun vs H Q E h => ?_) (fun cdv A outer s H vs Q E hr h => ?_)
  · obtain ⟨a, dx, o, d, u, n, s, rfl, _⟩ := h
    rfl
  · obtain ⟨a, dx, o, d, u, n, s, rfl, ha, ho, hd, hu, k⟩ := h
    refine ⟨_, pss_cons (ps_fld (pv 0) (pe_call DF.ok hr rfl DF.g DF.kp DF.b .nil pass0 (pa_cons (pv 1) pa_nil)) rfl)
      (pss_cons (ps_fld (pv 0) (pe_call DF.ok hr rfl DF.g DF.kp DF.b .nil pass0 (pa_cons (pv 2) pa_nil)) rfl)
      (pss_cons (ps_fld (pv 0) (pe_call DF.ok hr rfl DF.g DF.kp DF.b .nil pass0 (pa_cons (pv 3) pa_nil)) rfl)
      (pss_one (ps_fld (pv 0) (pv 4) rfl)))), ?_⟩
    have ao : o ≠ a := ne_of ho ha (by intro z; cases z)
    have ad : d ≠ a := ne_of hd ha (by intro z; cases z)
    have au : u ≠ a := ne_of hu ha (by intro z; cases z)
    refine ⟨_, rfl, o, [], rfl, ho, Nat.zero_le _, List.nodup_nil, (fun p h => nomatch h), fun o' H1 k1 n1 e1 => ?_⟩
    have a1 := k1 _ _ ha
    have p1 : o' ≠ a := fun e => by rw [e, ha] at n1; cases n1
    refine ⟨_, rfl, a, C, dx, _, rfl, a1, T.cl, T.nO, by show 0 < 1000; decide, ?_⟩
    generalize e2 : upd H1 a (.ins C dx (putF "objects" (.ref o') [])) = H2
    have a2 : H2 a = some (.ins C dx (putF "objects" (.ref o') [])) := by rw [← e2, upd_same]
    have k2 : ∀ b x, H1 b = some x → b ≠ a → H2 b = some x := fun b x e nb => by rw [← e2, upd_ne nb]; exact e
    clear e2
    refine ⟨_, rfl, d, [], rfl, k2 _ _ (k1 _ _ hd) ad, Nat.zero_le _, List.nodup_nil, (fun p h => nomatch h), fun d' H3 k3 n3 e3 => ?_⟩
    have a3 := k3 _ _ a2
    have p3 : d' ≠ a := fun e => by rw [e, a2] at n3; cases n3
    refine ⟨_, rfl, a, C, dx, _, rfl, a3, T.cl, T.nD, by show 1 < 1000; decide, ?_⟩
    generalize e4 : upd H3 a (.ins C dx (putF "deposed" (.ref d') (putF "objects" (.ref o') []))) = H4
    have a4 : H4 a = some (.ins C dx (putF "deposed" (.ref d') (putF "objects" (.ref o') []))) := by rw [← e4, upd_same]
    have k4 : ∀ b x, H3 b = some x → b ≠ a → H4 b = some x := fun b x e nb => by rw [← e4, upd_ne nb]; exact e
    clear e4
    have u4 := k4 _ _ (k3 _ _ (k2 _ _ (k1 _ _ hu) au)) au
    refine ⟨_, rfl, u, _, rfl, u4, by show 1 ≤ 1000; decide, by simp, (fun p h => by rw [List.mem_singleton.mp h]; exact ⟨n, rfl⟩), fun u' H5 k5 n5 e5 => ?_⟩
    have a5 := k5 _ _ a4
    have p5 : u' ≠ a := fun e => by rw [e, a4] at n5; cases n5
    refine ⟨_, rfl, a, C, dx, _, rfl, a5, T.cl, T.nU, (by rw [putF_nil, putF_tl (by decide +kernel), putF_nil]; show 2 < 1000; decide), _, rfl, _, rfl, a, C, dx, _, rfl, upd_same, T.cl, T.nS, (by rw [putF_nil, putF_tl (by decide +kernel), putF_nil, putF_tl (by decide +kernel), putF_tl (by decide +kernel), putF_nil]; show 3 < 1000; decide), ?_⟩
    refine k _ (fun b x e nb => ?_) ⟨dx, o', d', u', by rw [upd_same, flds_mk], ?_, ?_, ?_⟩
    · rw [upd_ne nb, upd_ne nb]
      exact k5 _ _ (k4 _ _ (k3 _ _ (k2 _ _ (k1 _ _ e) nb)) nb)
    · rw [upd_ne p1, upd_ne p1]
      exact k5 _ _ (k4 _ _ (k3 _ _ (k2 _ _ e1 p1)) p1)
    · rw [upd_ne p3, upd_ne p3]
      exact k5 _ _ (k4 _ _ e3 p3)
    · rw [upd_ne p5, upd_ne p5]
      exact e5
theorem ok_parts {f : Addr} {fd : FuncData} (F : Fun K "parts" "State.parts" sParts f fd) (T : TxtS K mg C) : FnOk P w K mg base CX0 1 f fd ["self"] (spParts C) := by
  refine F.ok scParts (fun vs H Q E h => ?_) (fun cdv A outer s H vs Q E hr h => ?_)
  · obtain ⟨a, n, s, rfl, _⟩ := h
    rfl
  · obtain ⟨a, n, s, rfl, ⟨dx, o, d, u, ha, ho, hd, hu⟩, k⟩ := h
    refine ⟨_, pss_one (ps_ret (pe_tup (pa_cons (pe_fld (pv 0) rfl) (pa_cons (pe_fld (pv 0) rfl) (pa_cons (pe_fld (pv 0) rfl) (pa_cons (pe_fld (pv 0) rfl) pa_nil)))))), ?_⟩
    refine ⟨_, rfl, a, C, dx, _, _, rfl, ha, T.cl, T.nO, lk_hd, _, rfl, a, C, dx, _, _, rfl, ha, T.cl, T.nD, (lk_tl (by decide +kernel)).trans lk_hd,
      _, rfl, a, C, dx, _, _, rfl, ha, T.cl, T.nU, (lk_tl (by decide +kernel)).trans ((lk_tl (by decide +kernel)).trans lk_hd), _, rfl, a, C, dx, _, _, rfl, ha, T.cl, T.nS, (lk_tl (by decide +kernel)).trans ((lk_tl (by decide +kernel)).trans ((lk_tl (by decide +kernel)).trans lk_hd)), by show 4 ≤ sizeLine; decide, fun t ht => ?_⟩
    have kk := sm_upd (o := .tup [.ref o, .ref d, .ref u, .int s]) ht
    refine k _ _ kk ⟨t, _, rfl, upd_same, _, _, rfl, ⟨o, _, rfl, kk _ _ ho, List.nodup_nil, rfl, rfl⟩, _, _, rfl, ⟨d, _, rfl, kk _ _ hd, List.nodup_nil, rfl, rfl⟩, _, _, rfl, ⟨u, _, rfl, kk _ _ hu, by simp, rfl, _, _, rfl, rfl, rfl⟩, _, _, rfl, rfl, rfl⟩
/-- States as objects with an own == -/
def OS (C : Addr) : Obs (Int × Int) := ⟨fun H o v => ∃ a, v = .ref a ∧ StAt C H a o.1 o.2, fun _ => C, fun p q => decide (p = q)⟩
theorem eq_stD (p q : Int × Int) : eqD O0 (stD p.1 p.2) (stD q.1 q.2) = decide (p = q) := by
  obtain ⟨n, s⟩ := p
  obtain ⟨m, t⟩ := q
  simp [stD, eqD, eqL, eqM, look]
def spSEq (C : Addr) : Sp := fun vs H Q _ => ∃ (v u : V) (p q : Int × Int), vs = [v, u] ∧ (OS C).At H p v ∧ (OS C).At H q u ∧ ∀ H', Same H H' → Q (.bl (decide (p = q))) H'
theorem ok_seq {n : Nat} {f fP fE : Addr} {fd fdP fdE : FuncData} (F : Fun K "__eq__" "Valued.__eq__" sVEq f fd) (T : TxtS K mg C) (TE : TxtE mg) (ok : ObsOk K (OS C)) (M : Meth K C "parts" fP) (GP : FnOk P w K mg base CX0 1 fP fdP ["self"] (spParts C)) (bP : Binds K fdP ["self"] [])
    (DE : Def P w K mg base 2 "equal" fE fdE ["one", "other"] (spEqual O0)) : FnOk P w K mg base CX0 3 f fd ["self", "other"] (spSEq C) := by
  refine F.ok scVEq (fun vs H Q E h => ?_) (fun cdv A outer s H vs Q E hr h => ?_)
  · obtain ⟨v, u, p, q, rfl, _⟩ := h
    rfl
  · obtain ⟨v, u, p, q, rfl, ⟨a, rfl, ha⟩, ⟨b, rfl, hb⟩, k⟩ := h
    refine ⟨_, pss_one (ps_ret (pe_and (pe_cmpR (op_isD ok) (pe_callTy (call_tyD ok) (by rfl) TE.type (by decide +kernel) (pa_cons (pv 0) pa_nil)) (pe_callTy (call_tyD ok) (by rfl) TE.type (by decide +kernel) (pa_cons (pv 1) pa_nil)) (nomark _))
      (pe_one (pe_call DE.ok hr rfl DE.g DE.kp DE.b .nil pass0 (pa_cons (pe_meth0 (pv 0) T.cl M GP (hr.mono (by decide)) bP .nil pass0) (pa_cons (pe_meth0 (pv 1) T.cl M GP (hr.mono (by decide)) bP .nil pass0) pa_nil)))))), ?_⟩
    obtain ⟨dx, o, d, u, ea, _⟩ := id ha
    refine ⟨_, rfl, _, .ob p, rfl, ⟨a, rfl, ha⟩, _, rfl, _, .ob q, rfl, ⟨b, rfl, hb⟩, .ob p, .ob q, rfl, rfl, _, rfl, iteC (by simp [tyD, OS]) ?_⟩
    refine ⟨_, rfl, a, dx, _, rfl, ea, ((lk_tl (by decide +kernel)).trans ((lk_tl (by decide +kernel)).trans ((lk_tl (by decide +kernel)).trans ((lk_tl (by decide +kernel)).trans rfl)))), a, _, _, rfl, ha, fun v1 H1 k1 d1 => ?_⟩
    have hb1 := hb.keep k1
    obtain ⟨dx', o', d', u', eb, _⟩ := id hb1
    refine ⟨_, rfl, b, dx', _, rfl, eb, ((lk_tl (by decide +kernel)).trans ((lk_tl (by decide +kernel)).trans ((lk_tl (by decide +kernel)).trans ((lk_tl (by decide +kernel)).trans rfl)))), b, _, _, rfl, hb1, fun v2 H2 k2 d2 => ?_⟩
    refine ⟨v1, v2, _, _, rfl, Dv.keep (O0ok (K := K)) k2 _ _ d1, d2, by simp [stD, wt, wtL], by simp [stD, wt, wtL], fun H3 k3 => ?_⟩
    rw [eq_stD]
    exact k H3 (Same.trans k1 (Same.trans k2 k3))
end
end St

set_option Elab.async false
set_option linter.all false
set_option maxRecDepth 100000
set_option maxHeartbeats 4000000
/-! Store -/
namespace St
open PySem PySem.Spec PyProof.Rows L2 Dq Vl ClX
/-- == of two States, by the method that they inherit -/
structure EqS (K : PySem.W.Frag) (C f : Addr) : Prop where
  at_ : PySem.W.findIn K (.ref C) "__eq__" = some (some (.ref f))
  fn : PySem.W.isFn K (.ref f) = true
section
variable {X : Cx} {C f : Addr} {fd : FuncData} {k : Nat} {ps : List Str}
theorem op_eqS (ok : ObsOk X.K (OS C)) (E : EqS X.K C f) (F : FnOk X.prog X.w X.K X.mg X.base CX0 k f fd ps (spSEq C)) (hb : Binds X.K fd ps []) (hr : Room k X.A) : OpR X (compareOp .Eq) (rOb (OS C)) := by
  intro pins s σ H x y v u Q I rx ry h
  obtain ⟨p, q, hp, hq, _, kq⟩ := h
  obtain ⟨a, rfl, ha⟩ := id hp
  obtain ⟨dx, _, _, _, ea, _⟩ := id ha
  cases rx
  obtain ⟨mA, J, _⟩ := ins_get I.hok ea
  obtain ⟨od, J, _⟩ := J.look
  obtain ⟨m, hF⟩ := I.fr
  obtain ⟨P, Z, pp, _⟩ := kit_of I ry (Dv.ty ok (x := .ob q) hq)
  have hy := Z.ty (model X.prog X.w) s.heap I.kIn pp
  show wpAny (model X.prog X.w) X.A (richCompare .Eq (.ref a) u) (EP X pins σ Q) X.xe s
  refine PySem.W.cmp_K (op := .Eq) (tb := tyU (OS C) (.ob q)) hr.units0 hF I.ok.mod.kin J hy (by simp [PySem.W.notFirst, tyU, OS]) E.at_ E.fn ?_
  refine wpAny_mono (run_fn (us := [.ref a, u]) (vs := [.ref a, y]) (E := E0) F hr hb .nil pass0 I (.cons rfl (.cons ry .nil)) (Q := fun v' H' => ∃ b, v' = .bl b ∧ Q (.bl b) H') ⟨_, y, p, q, rfl, hp, hq, fun H' k' => ⟨_, rfl, kq H' k'⟩⟩) (fun w s' g => ?_) fun _ _ e => e
  obtain ⟨v', H', I', rv, b, rfl, q'⟩ := g
  cases (show w = Value.bool b from rv)
  exact ⟨.bl b, H', I', rfl, q'⟩
theorem obeq_S {P : Program} {w : World} {K : PySem.W.Frag} {mg : Str → Option Value} {base : Heap} (ok : ObsOk K (OS C)) (E : EqS K C f) (F : FnOk P w K mg base CX0 k f fd ps (spSEq C)) (hb : Binds K fd ps []) : ObEq P w K mg base k (OS C) := by
  refine ⟨?_⟩
  intro Y e1 e2 e3 e4 e5 hr
  subst e1 e2 e3 e4 e5
  exact op_eqS ok E F hb hr
end
abbrev sKept : Stmt := inClass (Pf.top 14) 1
abbrev sOInit : Stmt := inClass (Pf.top 14) 0
abbrev sLock : Stmt := inClass (Pf.top 14) 2
abbrev sUnlock : Stmt := inClass (Pf.top 14) 3
abbrev sWrite : Stmt := inClass (Pf.top 14) 4
abbrev sRefuse : Stmt := inClass (Pf.top 14) 5
abbrev sNext : Stmt := inClass (Pf.top 14) 6
abbrev sInt : Stmt := Pf.top 9
theorem scKept : FnScope ["self"] ["self"] (defScope sKept) := ⟨rfl, rfl, rfl, by decide +kernel, rfl, by decide +kernel, by decide +kernel⟩
theorem scOInit : FnScope ["self", "state"] ["self", "state"] (defScope sOInit) := ⟨rfl, rfl, rfl, by decide +kernel, rfl, by decide +kernel, by decide +kernel⟩
theorem scLock : FnScope ["self", "holder"] ["self", "holder"] (defScope sLock) := ⟨rfl, rfl, rfl, by decide +kernel, rfl, by decide +kernel, by decide +kernel⟩
theorem scUnlock : FnScope ["self", "holder"] ["self", "holder"] (defScope sUnlock) := ⟨rfl, rfl, rfl, by decide +kernel, rfl, by decide +kernel, by decide +kernel⟩
theorem scWrite : FnScope ["self", "holder", "state"] ["self", "holder", "state"] (defScope sWrite) := ⟨rfl, rfl, rfl, by decide +kernel, rfl, by decide +kernel, by decide +kernel⟩
theorem scRefuse : FnScope ["self", "holder"] ["self", "holder"] (defScope sRefuse) := ⟨rfl, rfl, rfl, by decide +kernel, rfl, by decide +kernel, by decide +kernel⟩
theorem scNext : FnScope ["self", "serial"] ["self", "serial"] (defScope sNext) := ⟨rfl, rfl, rfl, by decide +kernel, rfl, by decide +kernel, by decide +kernel⟩
theorem scInt : FnScope ["thing"] ["thing"] (defScope sInt) := ⟨rfl, rfl, rfl, by decide +kernel, rfl, by decide +kernel, by decide +kernel⟩
def hv : Option Str → V
  | none => .non
  | some h => .str h
/-- a Store stands at a: its State's place, who holds it -/
def SoAt (CS : Addr) (H : Hp) (a st : Addr) (o : Option Str) : Prop := ∃ dx, H a = some (.ins CS dx [("_state", .ref st), ("_holder", hv o)])
abbrev Dd := DV (Int × Int)
def isH (o : Option Str) : Dd → Bool
  | .str t => match o with
    | some h => decide (h = t)
    | none => false
  | _ => false
theorem isH_none (x : Dd) : isH none x = false := by cases x <;> rfl
theorem isH_some (C : Addr) (h : Str) (x : Dd) : isH (some h) x = eqD (OS C) (.str h) x := by cases x <;> simp [isH, eqD]
def near (m s : Int) : Bool := decide (s = m) || decide (s = m + 1)
/-- Locked is raised, told who holds -/
def RaisesL (CL : Addr) (E : XK) (H : Hp) (o : Option Str) : Prop := ∀ (d p : Addr) (H' : Hp), H d = none → Same H H' → H' d = some (.xd [("holder", hv o), ("told", .ref p)]) → E (.ref CL) (some d) H'
def RaisesZ (CZ : Addr) (E : XK) (H : Hp) (m : Int) : Prop := ∀ (d p : Addr) (H' : Hp), H d = none → Same H H' → H' d = some (.xd [("serial", .int m), ("told", .ref p)]) → E (.ref CZ) (some d) H'
theorem RaisesL.at_ {CL : Addr} {E : XK} {H H1 : Hp} {o : Option Str} (h : RaisesL CL E H o) (k : Same H H1) : RaisesL CL E H1 o := fun d p H' n k' e => h d p H' (by
  cases z : H d with
  | none => rfl
  | some u => rw [k _ _ z] at n; cases n) (Same.trans k k') e
theorem RaisesZ.at_ {CZ : Addr} {E : XK} {H H1 : Hp} {m : Int} (h : RaisesZ CZ E H m) (k : Same H H1) : RaisesZ CZ E H1 m := fun d p H' n k' e => h d p H' (by
  cases z : H d with
  | none => rfl
  | some u => rw [k _ _ z] at n; cases n) (Same.trans k k') e
def spKept (CS : Addr) : Sp := fun vs H Q _ => ∃ (a st : Addr) (o : Option Str), vs = [.ref a] ∧ SoAt CS H a st o ∧ Q (.ref st) H
def spOInit (CS : Addr) : Sp := fun vs H Q _ => ∃ (a dx st : Addr), vs = [.ref a, .ref st] ∧ H a = some (.ins CS dx []) ∧ ∀ H', Pf.But a H H' → SoAt CS H' a st none → Q .non H'
def spLock (CS CL : Addr) : Sp := fun vs H Q E => ∃ (a st : Addr) (o : Option Str) (t : Str), vs = [.ref a, .str t] ∧ SoAt CS H a st o ∧ (o ≠ none → RaisesL CL E H o) ∧ (o = none → ∀ H', Pf.But a H H' → SoAt CS H' a st (some t) → Q .non H')
def spRefuse (CS CT CL : Addr) : Sp := fun vs H Q E => ∃ (a st : Addr) (o : Option Str) (v : V) (x : Dd), vs = [.ref a, v] ∧ SoAt CS H a st o ∧ Dv (OS CT) H x v ∧ wt x ≤ 100 ∧ (isH o x = false → RaisesL CL E H o) ∧ (isH o x = true → ∀ H', Same H H' → Q .non H')
def spUnlock (CS CT CL : Addr) : Sp := fun vs H Q E => ∃ (a st : Addr) (o : Option Str) (v : V) (x : Dd), vs = [.ref a, v] ∧ SoAt CS H a st o ∧ Dv (OS CT) H x v ∧ wt x ≤ 100 ∧ (isH o x = false → RaisesL CL E H o) ∧ (isH o x = true → ∀ H', Pf.But a H H' → SoAt CS H' a st none → Q .non H')
def spWrite (CS CT CL CZ : Addr) : Sp := fun vs H Q E => ∃ (a st st' : Addr) (o : Option Str) (v : V) (x : Dd) (n m n' s : Int), vs = [.ref a, v, .ref st'] ∧ SoAt CS H a st o ∧ StAt CT H st n m ∧ StAt CT H st' n' s ∧ Dv (OS CT) H x v ∧ wt x ≤ 100 ∧
  (isH o x = false → RaisesL CL E H o) ∧ (isH o x = true → near m s = false → RaisesZ CZ E H m) ∧ (isH o x = true → near m s = true → ∀ H', Pf.But a H H' → SoAt CS H' a st' o → Q .non H')
def spNext (CS CT : Addr) : Sp := fun vs H Q _ => ∃ (a st : Addr) (o : Option Str) (n m s : Int), vs = [.ref a, .int s] ∧ SoAt CS H a st o ∧ StAt CT H st n m ∧ ∀ H', Same H H' → Q (.bl (near m s)) H'
def spInt : Sp := fun vs H Q _ => ∃ i : Int, vs = [.int i] ∧ Q (.bl true) H
structure TxtO (K : PySem.W.Frag) (mg : Str → Option Value) (CS : Addr) : Prop where
  cl : Cls K CS
  nS : NoAttr K CS "_state"
  nH : NoAttr K CS "_holder"
  mg : mg "Store" = some (.ref CS)
/-- an own error with one field, as raise wants it -/
structure TxtX (P : Program) (w : World) (K : PySem.W.Frag) (mg : Str → Option Value) (base : Heap) (x : Str) (C : Addr) (f : Str) (fI : Addr) : Prop where
  oex : OexC K C
  iC : PySem.W.findIn K (.ref C) "__init__" = some (some (.ref fI))
  tI : PySem.W.typeIn K (.ref fI) = some (.type "function")
  F : FnR P w K mg base CX0 3 fI (Sup.spErr C 1 [f])
  mg : mg x = some (.ref C)
section
variable {P : Program} {w : World} {K : PySem.W.Frag} {mg : Str → Option Value} {base : Heap} {CS CT CL CZ fL fZ : Addr}
theorem ok_int {f : Addr} {fd : FuncData} (F : Fun K "is_integer" "is_integer" sInt f fd) (T : TxtF mg) (ni : mg "int" = none) (nb : mg "bool" = none) : FnOk P w K mg base CX0 1 f fd ["thing"] spInt := by
  refine F.ok scInt (fun vs H Q E h => ?_) (fun cdv A outer s H vs Q E hr h => ?_)
  · obtain ⟨i, rfl, _⟩ := h
    rfl
  · obtain ⟨i, rfl, q⟩ := h
    refine ⟨_, pss_one (ps_ret (pe_and (pe_callB call_isi (by rfl) T.isi (by decide +kernel) (pa_cons (pv 0) (pa_cons (pe_bltn (v := .ty "int") (by rfl) ni (by decide +kernel) rfl) pa_nil)))
      (pe_one (pe_not (pe_callB call_isi (by rfl) T.isi (by decide +kernel) (pa_cons (pv 0) (pa_cons (pe_bltn (v := .ty "bool") (by rfl) nb (by decide +kernel) rfl) pa_nil))))))), ?_⟩
    refine ⟨_, rfl, .int i, .ty "int", .type "int", .type "int", true, rfl, .ty _, .base (.int i), kit_ty (by decide +kernel), _, rfl, iteC rfl ?_⟩
    exact ⟨_, rfl, .int i, .ty "bool", .type "int", .type "bool", false, rfl, .ty _, .base (.int i), kit_ty (by decide +kernel), _, rfl, q⟩
theorem ok_kept {f : Addr} {fd : FuncData} (F : Fun K "kept" "Store.kept" sKept f fd) (T : TxtO K mg CS) : FnOk P w K mg base CX0 1 f fd ["self"] (spKept CS) := by
  refine F.ok scKept (fun vs H Q E h => ?_) (fun cdv A outer s H vs Q E hr h => ?_)
  · obtain ⟨a, st, o, rfl, _⟩ := h
    rfl
  · obtain ⟨a, st, o, rfl, ⟨dx, ha⟩, q⟩ := h
    exact ⟨_, pss_one (ps_ret (pe_fld (pv 0) rfl)), _, rfl, a, CS, dx, _, _, rfl, ha, T.cl, T.nS, lk_hd, q⟩
theorem ok_oinit {f : Addr} {fd : FuncData} (F : Fun K "__init__" "Store.__init__" sOInit f fd) (T : TxtO K mg CS) : FnOk P w K mg base CX0 1 f fd ["self", "state"] (spOInit CS) := by
  refine F.ok scOInit (fun vs H Q E h => ?_) (fun cdv A outer s H vs Q E hr h => ?_)
  · obtain ⟨a, dx, st, rfl, _⟩ := h
    rfl
  · obtain ⟨a, dx, st, rfl, ha, k⟩ := h
    refine ⟨_, pss_cons (ps_fld (pv 0) (pv 1) rfl) (pss_one (ps_fld (pv 0) pe_non rfl)), ?_⟩
    refine ⟨_, rfl, _, rfl, a, CS, dx, _, rfl, ha, T.cl, T.nS, by show 0 < 1000; decide, _, rfl, a, CS, dx, _, rfl, upd_same, T.cl, T.nH, by show 1 < 1000; decide, ?_⟩
    refine k _ (fun b o e nb => by rw [upd_ne nb, upd_ne nb]; exact e) ⟨dx, ?_⟩
    rw [upd_same, putF_nil, putF_tl (by decide +kernel), putF_nil]
    rfl
theorem noH {H H1 : Hp} (k : Same H H1) : ∀ b o, H b = some o → H1 b ≠ none := fun b o e => by rw [k _ _ e]; simp
theorem ok_lock {f : Addr} {fd : FuncData} (F : Fun K "lock" "Store.lock" sLock f fd) (T : TxtO K mg CS) (TL : TxtX P w K mg base "Locked" CL "holder" fL) : FnOk P w K mg base (L2.CX P w) 5 f fd ["self", "holder"] (spLock CS CL) := by
  refine F.okX scLock (fun vs H Q E h => ?_) (fun cdv A outer s H vs Q E hr h => ?_)
  · obtain ⟨a, st, o, t, rfl, _⟩ := h
    rfl
  · obtain ⟨a, st, o, t, rfl, ⟨dx, ha⟩, kx, kq⟩ := h
    refine ⟨_, pss_cons (ps_if (pt_cmpR op_notN (pe_fld (pv 0) rfl) pe_non (nomark _)) (pss_one (Sup.ps_rz rfl rfl (takes_of rfl rfl rfl rfl) TL.oex (raises_own TL.oex.exC TL.oex.tyC) TL.iC TL.tI TL.F (by decide) hr rfl TL.mg (pa_cons (pe_fld (pv 0) rfl) pa_nil))) pss_nil)
      (pss_one (ps_fld (pv 0) (pv 1) rfl)), ?_⟩
    refine ⟨_, rfl, a, CS, dx, _, _, rfl, ha, T.cl, T.nH, (lk_tl (by decide +kernel)).trans lk_hd, rfl, _, rfl, ?_⟩
    cases o with
    | some h =>
      refine iteC rfl ⟨_, rfl, a, CS, dx, _, _, rfl, ha, T.cl, T.nH, (lk_tl (by decide +kernel)).trans lk_hd, rfl, noH (Same.refl H), fun d p H' n k e => ?_⟩
      exact kx (by simp) d p H' n k e
    | none =>
      refine iteN rfl ⟨_, rfl, _, rfl, a, CS, dx, _, rfl, ha, T.cl, T.nH, by show 2 < 1000; decide, ?_⟩
      refine kq rfl _ Pf.But.upd ⟨dx, ?_⟩
      rw [upd_same, putF_tl (by decide +kernel)]
      simp [putF, hv]
end
end St

set_option Elab.async false
set_option linter.all false
set_option maxRecDepth 100000
set_option maxHeartbeats 4000000
namespace St
open PySem PySem.Spec PyProof.Rows L2 Dq Vl ClX
theorem fS {st : Addr} {o : Option Str} : ([("_state", V.ref st), ("_holder", hv o)] : List (Str × V)).lookup ("_state" : Str) = some (.ref st) := lk_hd
theorem fH {st : Addr} {o : Option Str} : ([("_state", V.ref st), ("_holder", hv o)] : List (Str × V)).lookup ("_holder" : Str) = some (hv o) := (lk_tl (by decide +kernel)).trans lk_hd
theorem fN {st : Addr} {o : Option Str} {m : Str} (h1 : (m == ("_state" : Str)) = false) (h2 : (m == ("_holder" : Str)) = false) : ([("_state", V.ref st), ("_holder", hv o)] : List (Str × V)).lookup m = none := (lk_tl h1).trans ((lk_tl h2).trans rfl)
theorem serL {o d u : Addr} {s : Int} : (flds o d u s).lookup ("serial" : Str) = some (.int s) := (lk_tl (by decide +kernel)).trans ((lk_tl (by decide +kernel)).trans ((lk_tl (by decide +kernel)).trans lk_hd))
abbrev oF (st : Addr) (o : Option Str) : List (Str × V) := [("_state", V.ref st), ("_holder", hv o)]
theorem putS {st st' : Addr} {o : Option Str} : putF "_state" (.ref st') (oF st o) = oF st' o := by simp [putF]
theorem putH {st : Addr} {o o' : Option Str} : putF "_holder" (hv o') (oF st o) = oF st o' := by
  rw [putF_tl (by decide +kernel)]
  simp [putF]
theorem SoAt.keep {CS : Addr} {H H' : Hp} {a st : Addr} {o : Option Str} (h : SoAt CS H a st o) (k : Same H H') : SoAt CS H' a st o := ⟨h.choose, k _ _ h.choose_spec⟩
section
variable {P : Program} {w : World} {K : PySem.W.Frag} {mg : Str → Option Value} {base : Heap} {CS CT CL CZ fL fZ : Addr}
theorem ok_refuse {f fE : Addr} {fd fdE : FuncData} (F : Fun K "_refuse_others" "Store._refuse_others" sRefuse f fd) (T : TxtO K mg CS) (TL : TxtX P w K mg base "Locked" CL "holder" fL) (DE : Def P w K mg base 4 "equal" fE fdE ["one", "other"] (spEqual (OS CT))) : FnOk P w K mg base (L2.CX P w) 5 f fd ["self", "holder"] (spRefuse CS CT CL) := by
  refine F.okX scRefuse (fun vs H Q E h => ?_) (fun cdv A outer s H vs Q E hr h => ?_)
  · obtain ⟨a, st, o, v, x, rfl, _⟩ := h
    rfl
  · obtain ⟨a, st, o, v, x, rfl, ⟨dx, ha⟩, hx, wx, kx, kq⟩ := h
    refine ⟨_, pss_one (ps_if (PW.pt (pw_or (pt_cmpR op_isN (pe_fld (pv 0) rfl) pe_non (nomark _)) (pw_or1 (pt_not (pt_val (pe_call DE.ok hr rfl DE.g DE.kp DE.b .nil pass0 (pa_cons (pe_fld (pv 0) rfl) (pa_cons (pv 1) pa_nil))))))))
      (pss_one (Sup.ps_rz rfl rfl (takes_of rfl rfl rfl rfl) TL.oex (raises_own TL.oex.exC TL.oex.tyC) TL.iC TL.tI TL.F (by decide) hr rfl TL.mg (pa_cons (pe_fld (pv 0) rfl) pa_nil))) pss_nil), ?_⟩
    have rz : ∀ H1, Same H H1 → isH o x = false → Sup.tRz (cxOf (L2.CX P w) P w K mg base ["self", "holder"] "Store._refuse_others" (defScope sRefuse) f cdv A outer s H E) CL 1 ["holder"] (tCons (tFld K (tVar 0) "_holder") tNil) (fun cls d _ H => E cls d H) { nx := fun _ H' => Q .non H', rt := Q } (start ["self", "holder"] [.ref a, v]) H1 := fun H1 k1 hz => by
      refine ⟨_, rfl, a, CS, dx, _, _, rfl, k1 _ _ ha, T.cl, T.nH, fH, rfl, noH k1, fun d p H' n k e => ?_⟩
      exact (kx hz).at_ k1 d p H' n k e
    refine ⟨_, rfl, a, CS, dx, _, _, rfl, ha, T.cl, T.nH, fH, rfl, _, rfl, ?_⟩
    cases o with
    | none =>
      exact iteC rfl (rz H (Same.refl H) (isH_none x))
    | some h =>
      refine iteN rfl ?_
      refine ⟨_, rfl, a, CS, dx, _, _, rfl, ha, T.cl, T.nH, fH, _, rfl, .str h, v, .str h, x, rfl, rfl, hx, by simp [wt], Nat.le_trans wx (by decide), fun H1 k1 => ⟨_, rfl, ?_⟩⟩
      rw [← isH_some]
      cases e : isH (some h) x with
      | true => exact iteN rfl (kq e H1 k1)
      | false => exact iteC rfl (rz H1 k1 e)
theorem ok_next {f fI : Addr} {fd fdI : FuncData} (F : Fun K "_is_next" "Store._is_next" sNext f fd) (T : TxtO K mg CS) (TS : TxtS K mg CT) (DI : Def P w K mg base 1 "is_integer" fI fdI ["thing"] spInt) : FnOk P w K mg base CX0 2 f fd ["self", "serial"] (spNext CS CT) := by
  refine F.ok scNext (fun vs H Q E h => ?_) (fun cdv A outer s H vs Q E hr h => ?_)
  · obtain ⟨a, st, o, n, m, i, rfl, _⟩ := h
    rfl
  · obtain ⟨a, st, o, n, m, i, rfl, ⟨dx, ha⟩, ⟨dx', o', d', u', hs, _⟩, k⟩ := h
    refine ⟨_, pss_one (ps_ret (pe_and (pe_call DI.ok hr rfl DI.g DI.kp DI.b .nil pass0 (pa_cons (pv 1) pa_nil))
      (pe_one (pe_cmpR op_in_seq (pv 1) (pe_tup (pa_cons (pe_fld (pe_fld (pv 0) rfl) rfl) (pa_cons (pe_op op_add (pe_fld (pe_fld (pv 0) rfl) rfl) pe_int) pa_nil))) (by rfl))))), ?_⟩
    refine ⟨_, rfl, i, rfl, _, rfl, iteC rfl ?_⟩
    refine ⟨_, rfl, _, rfl, a, CS, dx, _, _, rfl, ha, T.cl, T.nS, fS, st, CT, dx', _, _, rfl, hs, TS.cl, TS.nS, serL, _, rfl, a, CS, dx, _, _, rfl, ha, T.cl, T.nS, fS, st, CT, dx', _, _, rfl, hs, TS.cl, TS.nS, serL, _, _, rfl, rfl, by show 2 ≤ sizeLine; decide, fun t ht => ?_⟩
    refine ⟨t, _, rfl, .inr (SqT.of upd_same), rfl, rfl, ?_⟩
    have e : (inV (.int i) [V.int m, V.int (m + 1)]) = near m i := by
      have e1 : ∀ a b : Int, eqV (.int a) (.int b) = decide (a = b) := fun a b => by rw [Bool.eq_iff_iff]; simp [eqV]
      rw [Bool.eq_iff_iff]
      simp [inV, near, e1]
      omega
    show Q (.bl (inV (.int i) [V.int m, V.int (m + 1)])) _
    rw [e]
    exact k _ (sm_upd ht)
theorem ok_unlock {f fR : Addr} {fd fdR : FuncData} (F : Fun K "unlock" "Store.unlock" sUnlock f fd) (T : TxtO K mg CS) (M : Meth K CS "_refuse_others" fR) (GR : FnOk P w K mg base (L2.CX P w) 5 fR fdR ["self", "holder"] (spRefuse CS CT CL)) (bR : Binds K fdR ["self", "holder"] []) : FnOk P w K mg base (L2.CX P w) 6 f fd ["self", "holder"] (spUnlock CS CT CL) := by
  refine F.okX scUnlock (fun vs H Q E h => ?_) (fun cdv A outer s H vs Q E hr h => ?_)
  · obtain ⟨a, st, o, v, x, rfl, _⟩ := h
    rfl
  · obtain ⟨a, st, o, v, x, rfl, ⟨dx, ha⟩, hx, wx, kx, kq⟩ := h
    refine ⟨_, pss_cons (ps_expr (pe_meth (E := E) (pv 0) T.cl M GR hr bR .nil (passes_call (takes_of rfl rfl rfl rfl) fun _ _ _ _ h => h) (pa_cons (pv 1) pa_nil)))
      (pss_one (ps_fld (pv 0) pe_non rfl)), ?_⟩
    refine ⟨_, rfl, a, dx, _, rfl, ha, fN (by decide +kernel) (by decide +kernel), _, rfl, a, st, o, v, x, rfl, ⟨dx, ha⟩, hx, wx, kx, fun e H1 k1 => ?_⟩
    refine ⟨_, rfl, a, CS, dx, _, rfl, k1 _ _ ha, T.cl, T.nH, by show 2 < 1000; decide, ?_⟩
    refine kq e _ (fun b u e nb => by rw [upd_ne nb]; exact k1 _ _ e) ⟨dx, ?_⟩
    rw [upd_same, show V.non = hv none from rfl, putH]
theorem ok_write {f fR fN' : Addr} {fd fdR fdN : FuncData} (F : Fun K "write" "Store.write" sWrite f fd) (T : TxtO K mg CS) (TS : TxtS K mg CT) (IC : C8.InsC K CT) (ni : mg "isinstance" = none) (TZ : TxtX P w K mg base "Stale" CZ "serial" fZ) (M : Meth K CS "_refuse_others" fR) (GR : FnOk P w K mg base (L2.CX P w) 5 fR fdR ["self", "holder"] (spRefuse CS CT CL)) (bR : Binds K fdR ["self", "holder"] [])
    (MN : Meth K CS "_is_next" fN') (GN : FnOk P w K mg base CX0 2 fN' fdN ["self", "serial"] (spNext CS CT)) (bN : Binds K fdN ["self", "serial"] []) : FnOk P w K mg base (L2.CX P w) 6 f fd ["self", "holder", "state"] (spWrite CS CT CL CZ) := by
  refine F.okX scWrite (fun vs H Q E h => ?_) (fun cdv A outer s H vs Q E hr h => ?_)
  · obtain ⟨a, st, st', o, v, x, n, m, n', i, rfl, _⟩ := h
    rfl
  · obtain ⟨a, st, st', o, v, x, n, m, n', i, rfl, ⟨dx, ha⟩, hst, hst', hx, wx, kx, kz, kq⟩ := h
    refine ⟨_, pss_cons (ps_expr (pe_meth (E := E) (pv 0) T.cl M GR hr bR .nil (passes_call (takes_of rfl rfl rfl rfl) fun _ _ _ _ h => h) (pa_cons (pv 1) pa_nil)))
      (pss_cons (ps_if (PW.pt (pw_or (pt_not (pt_val (pe_callB (C8.call_isC IC) (by rfl) ni (by decide +kernel) (pa_cons (pv 2) (pa_cons (pe_glob (v := .ref CT) rfl TS.mg rfl) pa_nil)))))
          (pw_or1 (pt_not (pt_val (pe_meth (pv 0) T.cl MN GN (hr.mono (by decide)) bN .nil pass0 (pa_cons (pe_fld (pv 2) rfl) pa_nil)))))))
        (pss_one (Sup.ps_rz rfl rfl (takes_of rfl rfl rfl rfl) TZ.oex (raises_own TZ.oex.exC TZ.oex.tyC) TZ.iC TZ.tI TZ.F (by decide) (hr.mono (by decide)) rfl TZ.mg (pa_cons (pe_fld (pe_fld (pv 0) rfl) rfl) pa_nil))) pss_nil)
      (pss_one (ps_fld (pv 0) (pv 2) rfl))), ?_⟩
    refine ⟨_, rfl, a, dx, _, rfl, ha, fN (by decide +kernel) (by decide +kernel), _, rfl, a, st, o, v, x, rfl, ⟨dx, ha⟩, hx, wx, kx, fun e H1 k1 => ?_⟩
    obtain ⟨dx', o', d', u', hs, _⟩ := id (hst'.keep k1)
    refine ⟨_, rfl, st', dx', _, rfl, hs, _, rfl, iteN rfl ?_⟩
    refine ⟨_, rfl, a, dx, _, rfl, k1 _ _ ha, fN (by decide +kernel) (by decide +kernel), _, rfl, st', CT, dx', _, _, rfl, hs, TS.cl, TS.nS, serL, a, st, o, n, m, i, rfl, ⟨dx, k1 _ _ ha⟩, hst.keep k1, fun H2 k2 => ⟨_, rfl, ?_⟩⟩
    have k12 := Same.trans k1 k2
    cases en : near m i with
    | false =>
      obtain ⟨dy, o2, d2, u2, hs2, _⟩ := id (hst.keep k12)
      refine iteC rfl ⟨_, rfl, a, CS, dx, _, _, rfl, k12 _ _ ha, T.cl, T.nS, fS, st, CT, dy, _, _, rfl, hs2, TS.cl, TS.nS, serL, rfl, noH k12, fun d p H' nd k e' => ?_⟩
      exact (kz e en).at_ k12 d p H' nd k e'
    | true =>
      refine iteN rfl ⟨_, rfl, _, rfl, a, CS, dx, _, rfl, k12 _ _ ha, T.cl, T.nS, by show 2 < 1000; decide, ?_⟩
      refine kq e en _ (fun b u e nb => by rw [upd_ne nb]; exact k12 _ _ e) ⟨dx, ?_⟩
      rw [upd_same, putS]
end
end St

set_option Elab.async false
set_option linter.all false
set_option maxRecDepth 100000
set_option maxHeartbeats 4000000
/-! own rule: try with any number of clauses «except X as n» -/
namespace Clz
open PySem PySem.Spec PyProof.Rows L2
/-- an exception of the class cls at a, with its dict d, has come to rest in the state s -/
def Rest (X : Cx) (pins : List (Addr × Obj)) (a : Addr) (cls : Value) (d : Option Addr) (σ : L2.St) (H : Hp) (s : Shared) : Prop :=
  ∃ (B : Heap) (s0 : Shared), Inv X pins σ H s0 ∧ (∀ b o, s0.heap.get? b = some o → b ∉ frs X.stack → B.get? b = some o) ∧ s0.heap.UpToSlots s.heap ∧ HandSPX.FlyingZ B X.stack a (Zc cls d) s.heap ∧ H a = none ∧ s.os = s0.os ∧ AllBare s.gens
abbrev Cl := Addr → Value → Option Addr → Ends → L2.St → Hp → Prop
/-- what the clauses make of it -/
def Clauses (X : Cx) (hds : List ExceptHandler) (G : Cl) : Prop :=
  ∀ (pins : List (Addr × Obj)) (s : Shared) (σ : L2.St) (H : Hp) (D : Ends) (a : Addr) (cls : Value) (d : Option Addr), Rest X pins a cls d σ H s → G a cls d D σ H → wpAny (model X.prog X.w) X.A (handleBy (.ref a) X.env hds) (SP X pins D) X.xe s
section
variable {X : Cx} {pins : List (Addr × Obj)} {a : Addr} {cls : Value} {d : Option Addr} {σ : L2.St} {H : Hp} {s : Shared}
theorem Rest.inv (r : Rest X pins a cls d σ H s) : Inv X pins σ H s := by
  obtain ⟨B, s0, J, nb, up, fl, na, os, ag⟩ := r
  exact J.landed nb fl.1 up os ag
theorem Rest.at_ (r : Rest X pins a cls d σ H s) : ∃ oe vs, s.heap.get? a = some oe ∧ Zc cls d oe ∧ oe.data = .fields vs ∧ H a = none ∧ a ∉ frs X.stack := by
  obtain ⟨B, s0, J, nb, up, fl, na, os, ag⟩ := r
  obtain ⟨oe, vs, he, hz, hd⟩ := fl.there
  refine ⟨oe, vs, he, hz, hd, na, fun hm => ?_⟩
  obtain ⟨_, o', e', hnf⟩ := fl.2.2.1.mem hm
  rw [he] at e'
  cases e'
  exact hnf _ hd
theorem Rest.suite (r : Rest X pins a cls d σ H s) (hs : X.stack = X.env :: X.outer) (hf : X.env.frame = some X.env.locals) {oe : Obj} {vs : Array Value} (he : s.heap.get? a = some oe) (hd : oe.data = .fields vs) : Inv (X.suite a ((a, oe) :: (X.pn ++ pins))) [] σ H s := by
  obtain ⟨_, _, _, _, _, na, nf⟩ := r.at_
  rw [hs] at nf
  refine r.inv.suite he hd na (fun z => nf (List.mem_filterMap.mpr ⟨X.env, List.mem_cons_self, by rw [hf, z]⟩)) fun hm => ?_
  obtain ⟨e, he, q⟩ := List.mem_filterMap.mp hm
  exact nf (List.mem_filterMap.mpr ⟨e, List.mem_cons_of_mem _ he, q⟩)
/-- no clause is left: it flies on -/
theorem cl_end {W : WX} (hs : X.stack = X.env :: X.outer) (hf : X.env.frame = some X.env.locals) (tk : Takes X W) : Clauses X [] (fun _ cls d _ σ H => W cls d σ H) := by
  intro pins s σ H D a cls d r w
  obtain ⟨B, s0, J, nb, up, fl, na, os, ag⟩ := r
  refine wpAny_handleBy_nil ?_
  obtain ⟨_, _, _, oe, vs, T, oT, ts', he, hz, hd, h1, hr⟩ := id fl
  unfold PySem.passOn
  refine wpAny_bind (wpAny_field he hd h1 ?_)
  rw [if_neg (show ¬ ((Value.ref T == Value.none) = true) from by simp)]
  have fin : wpAny (model X.prog X.w) X.A (setFlight (.ref a) X.env.frame) (fun _ s4 => wpAny (model X.prog X.w) X.A (throw (.ref a) : Sem Flow) (SP X pins D) X.xe s4) X.xe s := by
    rw [hf]
    exact HandSPX.setFlight_upZ fl fun h4 hh4 up4 => wpAny_throw (tk _ _ ⟨a, B, s0, pins, σ, H, cls, d, rfl, J, nb, up.trans up4, .inr (.inr hh4), na, os, ag, w⟩)
  first
    | exact wpAny_bind (wpAny_pure (wpAny_bind fin))
    | exact wpAny_bind fin
/-- the ends of a suite whose name goes behind it -/
def Ends.gone (D : Ends) (i : Nat) : Ends := { nx := fun σ' H' => D.nx (σ'.set i none) H', rt := D.rt, bk := fun σ' H' => D.bk (σ'.set i none) H', ct := fun σ' H' => D.ct (σ'.set i none) H' }
/-- except x as n, n in slot i -/
theorem cl_as {x n : Str} {c : Value} {i : Nat} {b₀ : Stmt} {suite : List Stmt} {np pos' : Pos} {ts : Addr → Value → Option Addr → TS} {hds : List ExceptHandler} {G : Cl}
    (hs : X.stack = X.env :: X.outer) (hf : X.env.frame = some X.env.locals) (hN : X.N.Nodup) (hi : X.N[i]? = some n) (hln : X.env.kindOf n = some .local) (hc : Names X x c)
    (hsu : ∀ (a : Addr) (oe : Obj) (cls : Value) (d : Option Addr) (pn : List (Addr × Obj)), Zc cls d oe → (∃ vs, oe.data = .fields vs) → PSs (X.suite a ((a, oe) :: pn)) (b₀ :: suite) (ts a cls d)) (rest : Clauses X hds G) :
    Clauses X (.ExceptHandler (some (.Name x np)) (some n) (b₀ :: suite) pos' :: hds) (fun a cls d D σ H => ∃ b, PySem.W.exmOne X.K cls c = some b ∧ (b = true → ts a cls d (Ends.gone D i) (σ.set i (some (.ref a))) H) ∧ (b = false → G a cls d D σ H)) := by
  intro pins s σ H D a cls d r w
  obtain ⟨b, hb1, hyes, hno⟩ := w
  obtain ⟨oe, vs, he, hz, hd, na, nf⟩ := r.at_
  have S3 := r.suite hs hf he hd
  have ok := r.inv.ok
  refine wpAny_handleBy_cons (codeAny_handlers_test ?_) (by intro q; cases q)
  have LT : PySem.W.Looks (model X.prog X.w) s.heap (typeOf (.ref a)) cls := fun A Q E s k q => wpAny_typeOf_ref (k _ _ he) (by rw [hz.1]; exact q)
  have LM := PySem.W.exm_one (M := model X.prog X.w) r.inv.kIn LT hb1
  have test : ∀ {Q : Value → Shared → Prop} {E : Value → Shared → Prop}, Q c s → wpAny (model X.prog X.w) (X.A.mark (some (.ref a))) (eval (.Name x np) X.env) Q E s := fun {Q E} q => by
    obtain ⟨hg, hdbg, hm | ⟨hm, hv, hnn⟩⟩ := hc
    · exact ld_glob (X := X.suite a ((a, oe) :: (X.pn ++ pins))) S3 hg hm q hdbg
    · exact ld_blt (X := X.suite a ((a, oe) :: (X.pn ++ pins))) S3 hg hm hv q hnn hdbg
  refine test (LM.here ?_)
  cases b with
  | false => exact rest pins s σ H D a cls d r (hno rfl)
  | true =>
    obtain ⟨B, s0, J, nb, up, fl, _, os, ag⟩ := r
    refine codeAny_handlers_suite_as (HandSPX.lands_againZ fl fun h4 fl4 up4 => ?_)
    have r4 : Rest X pins a cls d σ H { s with heap := h4 } := ⟨B, s0, J, nb, up.trans up4, fl4, na, os, ag⟩
    obtain ⟨oe4, vs4, he4, hz4, hd4, _⟩ := r4.at_
    refine store_ok (X := X.suite a ((a, oe4) :: (X.pn ++ pins))) (v := .ref a) (r4.suite hs hf he4 hd4) hN hi (.inl hln) rfl (fun s5 S5 => ?_) (.inr hln)
    refine wpAny_mono ((hsu a oe4 cls d (X.pn ++ pins) hz4 ⟨_, hd4⟩).run [] s5 _ H _ S5 (hyes rfl)) (fun f s6 h6 => ?_) (fun _ _ z => False.elim z)
    have gone : ∀ {σ6 : L2.St} {H6 : Hp} {Q : Shared → Prop}, Inv (X.suite a ((a, oe4) :: (X.pn ++ pins))) [] σ6 H6 s6 → (∀ s7, Inv X pins (σ6.set i none) H6 s7 → Q s7) →
        wpAny (model X.prog X.w) X.A (do bindName X.env n .none; unbindBehindTheSuite X.env n pos') (fun _ s7 => Q s7) X.xe s6 := fun S6 hq => gone_ok (S6.unsuite ok) hN hi hln hq
    cases f with
    | ret u =>
      obtain ⟨v6, σ6, H6, S6, r6, q6⟩ := h6
      exact gone S6 fun s7 J7 => ⟨_, _, _, J7, r6, q6⟩
    | next =>
      obtain ⟨σ6, H6, S6, q6⟩ := h6
      exact gone S6 fun s7 J7 => ⟨_, _, J7, q6⟩
    | brk =>
      obtain ⟨σ6, H6, S6, q6⟩ := h6
      exact gone S6 fun s7 J7 => ⟨_, _, J7, q6⟩
    | cont =>
      obtain ⟨σ6, H6, S6, q6⟩ := h6
      exact gone S6 fun s7 J7 => ⟨_, _, J7, q6⟩
/-- try: body / clauses -/
theorem ps_try_cl {body : List Stmt} {h₀ : ExceptHandler} {hds : List ExceptHandler} {pos : Pos} {tb : WX → TS} {G : Cl} (hs : X.stack = X.env :: X.outer) (hf : X.env.frame = some X.env.locals)
    (hb : ∀ (W : WX) (pn : List (Addr × Obj)) (xe : Value → Shared → Prop), Takes (X.tr pn xe) W → PassesOwn (model X.prog X.w) X.A X.env xe → PSs (X.tr pn xe) body (tb W)) (hc : Clauses X (h₀ :: hds) G) :
    PS X (.Try body (h₀ :: hds) [] [] pos) (fun D σ H => tb (fun cls d σ' H' => σ'.length = X.N.length → ∀ a, H' a = none → G a cls d D σ' H') D σ H) := by
  refine ⟨fun pins s σ H D I h => wpAny_Try_except ?_⟩
  have ok := I.ok
  have hfr : X.A.frames = some (X.env :: X.outer) := by rw [ok.frames, hs]
  refine wpAny_mono ((hb _ (X.pn ++ pins) (fun e s₁ => wpAny (model X.prog X.w) X.A (noteFrame e X.env) (fun _ s₂ => wpAny (model X.prog X.w) X.A (setFlight e none) (fun _ s₃ =>
    wpAny (model X.prog X.w) X.A (handleBy e X.env (h₀ :: hds)) (SP X pins D) X.xe s₃) X.xe s₂) X.xe s₁) (fun u s' xx => ?_) PassesOwn.looking).run [] s σ H D (I.toTry _) h) (fun f s1 h1 => ?_) (fun e s1 he => he)
  · obtain ⟨a, B, s0, pins', σ', H', cls, d, rfl, J', nb, up, sky, na, os, ag, w⟩ := xx
    have sky' : Sky B (X.env :: X.outer) a (Zc cls d) X.env.locals s'.heap := by rw [← hs]; exact sky
    refine Sky.land Zc.steady hfr hf sky' fun h3 fl3 up3 => ?_
    exact hc pins _ σ' H' D a cls d ⟨B, s0, J'.ofTry ok, nb, up.trans up3, by rw [hs]; exact fl3, na, os, ag⟩ (w J'.len a na)
  · cases f with
    | ret u =>
      obtain ⟨v, σ', H', J', r, q⟩ := h1
      exact ⟨v, σ', H', J'.ofTry ok, r, q⟩
    | next =>
      obtain ⟨σ', H', J', q⟩ := h1
      exact wpAny_execs_nil ⟨σ', H', J'.ofTry ok, q⟩
    | brk =>
      obtain ⟨σ', H', J', q⟩ := h1
      exact ⟨σ', H', J'.ofTry ok, q⟩
    | cont =>
      obtain ⟨σ', H', J', q⟩ := h1
      exact ⟨σ', H', J'.ofTry ok, q⟩
end
end Clz

set_option Elab.async false
set_option linter.all false
set_option maxRecDepth 100000
set_option maxHeartbeats 4000000
/-! _law_told -/
namespace St
open PySem PySem.Spec PyProof.Rows L2 Dq Vl ClX LamX Clz
abbrev sTold : Stmt := Pf.top 20
abbrev NTold : List Str := ["_law_ask", "e"]
theorem scTold : FnScope NTold ["_law_ask"] (defScope sTold) := ⟨rfl, rfl, rfl, by decide +kernel, rfl, by decide +kernel, by decide +kernel⟩
/-- what the two clauses make of an error -/
def wishE (CL CZ : Addr) (Q : VK) : XK := fun cls d H => ∃ (dd p : Addr) (v : V), d = some dd ∧
  ((cls = .ref CL ∧ H dd = some (.xd [("holder", v), ("told", .ref p)]) ∧ ∀ t, H t = none → Q (.ref t) (upd H t (.tup [.str "locked", v]))) ∨
   (cls = .ref CZ ∧ H dd = some (.xd [("serial", v), ("told", .ref p)]) ∧ ∀ t, H t = none → Q (.ref t) (upd H t (.tup [.str "stale", v]))))
def TTold2 (CL CZ : Addr) : (XK → Hp → VK → Prop) → Hp → VK → Prop := fun tl H Q => tl (wishE CL CZ Q) H fun v H1 => 2 ≤ sizeLine ∧ ∀ t, H1 t = none → Q (.ref t) (upd H1 t (.tup [.str "told", v]))
/-- the two classes, caught -/
structure TxtC (K : PySem.W.Frag) (mg : Str → Option Value) (CL CZ : Addr) : Prop where
  mL : mg "Locked" = some (.ref CL)
  mZ : mg "Stale" = some (.ref CZ)
  xL : XfC K CL
  xZ : XfC K CZ
  nL : PySem.W.findIn K (.ref CL) "holder" = some none
  nZ : PySem.W.findIn K (.ref CZ) "serial" = some none
  LL : PySem.W.exmOne K (.ref CL) (.ref CL) = some true
  ZL : PySem.W.exmOne K (.ref CZ) (.ref CL) = some false
  ZZ : PySem.W.exmOne K (.ref CZ) (.ref CZ) = some true
theorem xlk {f : Str} {v : V} {r : List (Str × V)} : ((f, v) :: r).lookup f = some v := lk_hd
theorem told_gives2 {X : Cx} {CL CZ g : Addr} {cdg : Value} {q : Str} (T : TxtC X.K X.mg CL CZ) : GivesTo X NTold "_law_told" (defScope sTold) g cdg (defBody sTold) "_law_ask" q (TTold2 CL CZ) := by
  intro f c' s H Q tl act hc h
  refine ⟨_, pss_one (ps_try_cl (X := (cxOf C8.CX0 X.prog X.w X.K X.mg X.base NTold "_law_told" (defScope sTold) g cdg X.A X.stack s H C8.E0).nox)
      rfl rfl (fun W pn xe tk _ => pss_one (ps_ret (pe_tup (pa_cons pe_str (pa_cons (te := fun σZ HZ Q => ∃ Ech : XK, (∀ cls d σ' H', Ech cls d H' → W cls d σ' H') ∧ σZ[0]? = some (some (.ref f)) ∧ HZ c' = some (CodeO c' q) ∧ tl Ech HZ Q) ⟨fun pins s' σ H' Q I ⟨Ech, hW, h1⟩ => (act W pn xe Ech _ _ tk hW).run pins s' σ H' Q I h1⟩ pa_nil)))))
      (cl_as (i := 1) (c := .ref CL) rfl rfl scTold.nd rfl rfl ⟨rfl, by decide, .inl T.mL⟩ (fun a oe cls d pn hz hf => pss_one (ps_ret (pe_tup (pa_cons pe_str (pa_cons (pe_xf T.xL T.nL hz hf (pv 1)) pa_nil)))))
      (cl_as (i := 1) (c := .ref CZ) rfl rfl scTold.nd rfl rfl ⟨rfl, by decide, .inl T.mZ⟩ (fun a oe cls d pn hz hf => pss_one (ps_ret (pe_tup (pa_cons pe_str (pa_cons (pe_xf T.xZ T.nZ hz hf (pv 1)) pa_nil)))))
      (cl_end rfl rfl L2.takes0)))), ?_⟩
  · refine ⟨wishE CL CZ Q, fun cls d σ' H' hw hl a na => ?_, rfl, hc, ?_⟩
    · have h1 : ∀ a, (σ'.set 1 (some (V.ref a)))[1]? = some (some (V.ref a)) := fun a => by
        rw [List.getElem?_set_self (by rw [hl]; exact (by decide : 1 < 2))]
      obtain ⟨dd, p, v, rfl, ⟨rfl, e1, e2⟩ | ⟨rfl, e1, e2⟩⟩ := hw
      · refine ⟨true, T.LL, fun _ => ?_, fun z => nomatch z⟩
        exact ⟨_, h1 a, rfl, rfl, dd, _, v, rfl, e1, lk_hd, by show 2 ≤ sizeLine; decide, e2⟩
      · refine ⟨false, T.ZL, fun z => (nomatch z), fun _ => ⟨true, T.ZZ, fun _ => ?_, fun z => nomatch z⟩⟩
        exact ⟨_, h1 a, rfl, rfl, dd, _, v, rfl, e1, lk_hd, by show 2 ≤ sizeLine; decide, e2⟩
    · exact h
end St

set_option Elab.async false
set_option linter.all false
set_option maxRecDepth 100000
set_option maxHeartbeats 4000000
/-! _law_due -/
namespace St
open PySem PySem.Spec PyProof.Rows L2 Dq Vl ClX
abbrev sDue : Stmt := Pf.top 21
abbrev NDue : List Str := ["_law_m", "_law_word", "_law_holder", "_law_state"]
theorem scDue : FnScope NDue NDue (defScope sDue) := ⟨rfl, rfl, rfl, by decide +kernel, rfl, by decide +kernel, by decide +kernel⟩
inductive Wd | lock | unlock | write
def Wd.s : Wd → Str
  | .lock => "lock"
  | .unlock => "unlock"
  | .write => "write"
def strOf : Dd → Option Str
  | .str t => some t
  | _ => none
/-- what is answered, who holds behind it, whether the State is the new one -/
def out (w : Wd) (o : Option Str) (x : Dd) (m s : Int) : (Str × V) × Option Str × Bool :=
  match w with
  | .lock => match o with
    | some h => (("locked", .str h), some h, false)
    | none => (("told", .non), strOf x, false)
  | .unlock => if isH o x = true then (("told", .non), none, false) else (("locked", hv o), o, false)
  | .write => if isH o x = true then (if near m s = true then (("told", .non), o, true) else (("stale", .int m), o, false)) else (("locked", hv o), o, false)
/-- the law's own m -/
abbrev mF (o : Option Str) (st : Addr) : List (Key × V) := [(.inr "holder", hv o), (.inr "state", .ref st)]
theorem mH (o : Option Str) (st : Addr) : valV (mF o st) (.inr "holder") = some (hv o) := by simp [valV, mF]
theorem mS (o : Option Str) (st : Addr) : valV (mF o st) (.inr "state") = some (.ref st) := by
  have : ¬ ((.inr "holder" : Key) = .inr "state") := by decide +kernel
  simp [valV, mF, this]
theorem mpH (o o' : Option Str) (st : Addr) : putK (mF o st) (.inr "holder") (hv o') = mF o' st := by
  have : ¬ ((.inr "state" : Key) = .inr "holder") := by decide +kernel
  simp [putK, mF, this]
theorem mpS (o : Option Str) (st st' : Addr) : putK (mF o st) (.inr "state") (.ref st') = mF o st' := by
  have : ¬ ((.inr "holder" : Key) = .inr "state") := by decide +kernel
  simp [putK, mF, this]
def spDue (CT : Addr) : Sp := fun vs H Q _ => ∃ (D st st' : Addr) (o : Option Str) (w : Wd) (v : V) (x : Dd) (n m n' s : Int), vs = [.ref D, .str w.s, v, .ref st'] ∧ H D = some (.dK (mF o st)) ∧ StAt CT H st n m ∧ StAt CT H st' n' s ∧ Dv (OS CT) H x v ∧ (w = .lock → ∃ t, x = .str t) ∧
  ∀ (t : Addr) (H' : Hp), H t = none → Pf.But D H H' → H' D = some (.dK (mF (out w o x m s).2.1 (if (out w o x m s).2.2 = true then st' else st))) → H' t = some (.tup [.str (out w o x m s).1.1, (out w o x m s).1.2]) → Q (.ref t) H'
theorem kit_s : ∀ a ∈ ["NoneType", "bool", "int", "str", "tuple", "list", "dict"], kitB a "str" = some (a == "str") := by decide +kernel
theorem kit_str {K : PySem.W.Frag} {CT : Addr} (kS : PySem.W.kitOne K (.ref CT) (.type "str") = some false) (x : Dd) : PySem.W.kitOne K (tyU (OS CT) x) (.type "str") = some (strOf x).isSome := by
  have go : ∀ a, a ∈ ["NoneType", "bool", "int", "str", "tuple", "list", "dict"] → PySem.W.kitOne K (.type a) (.type "str") = some (a == "str") := fun a ha => kit_ty (kit_s a ha)
  cases x with
  | ob o => exact kS
  | _ => exact go _ (by simp)
section
variable {P : Program} {w : World} {K : PySem.W.Frag} {mg : Str → Option Value} {base : Heap} {CT : Addr}
theorem ok_due {f : Addr} {fd : FuncData} (F : Fun K "_law_due" "_law_due" sDue f fd) (TS : TxtS K mg CT) (ok : ObsOk K (OS CT)) (kS : PySem.W.kitOne K (.ref CT) (.type "str") = some false) (ni : mg "isinstance" = none) (ns : mg "str" = none) : FnOk P w K mg base CX0 1 f fd NDue (spDue CT) := by
  refine F.ok scDue (fun vs H Q E h => ?_) (fun cdv A outer s H vs Q E hr h => ?_)
  · obtain ⟨D, st, st', o, wd, v, x, n, m, n', i, rfl, _⟩ := h
    rfl
  · obtain ⟨D, st, st', o, wd, v, x, n, m, n', i, rfl, hD, hst, hst', hx, hl, k⟩ := h
    have hu := hu_of hr
    refine ⟨_, pss_cons (ps_if (pt_cmpR op_eq (pv 1) pe_str (nomark _))
        (pss_cons (ps_if (pt_cmpR op_notN (pe_dget hu (pv 0) pe_str (fun _ _ => rfl)) pe_non (nomark _)) (pss_one (ps_ret (pe_tup (pa_cons pe_str (pa_cons (pe_dget hu (pv 0) pe_str (fun _ _ => rfl)) pa_nil))))) pss_nil)
        (pss_cons (ps_dput hu (pv 0) pe_str (pv 2) rfl)
        (pss_one (ps_ret (pe_tup (pa_cons pe_str (pa_cons pe_non pa_nil))))))) pss_nil)
      (pss_cons (ps_if (PW.pt (pw_or (pt_cmpR op_isN (pe_dget hu (pv 0) pe_str (fun _ _ => rfl)) pe_non (nomark _)) (pw_or (pt_not (pt_val (pe_callB call_isi (by rfl) ni (by decide +kernel) (pa_cons (pv 2) (pa_cons (pe_bltn (v := .ty "str") (by rfl) ns (by decide +kernel) rfl) pa_nil))))) (pw_or1 (pt_cmpR op_ne (pe_dget hu (pv 0) pe_str (fun _ _ => rfl)) (pv 2) (nomark _)))))) (pss_one (ps_ret (pe_tup (pa_cons pe_str (pa_cons (pe_dget hu (pv 0) pe_str (fun _ _ => rfl)) pa_nil))))) pss_nil)
      (pss_cons (ps_if (pt_cmpR op_eq (pv 1) pe_str (nomark _)) (pss_cons (ps_dput hu (pv 0) pe_str pe_non rfl) (pss_one (ps_ret (pe_tup (pa_cons pe_str (pa_cons pe_non pa_nil)))))) pss_nil)
      (pss_cons (ps_if (pt_cmpR op_notIn_seq (pe_op op_sub (pe_fld (pv 3) rfl) (pe_fld (pe_dget hu (pv 0) pe_str (fun _ _ => rfl)) rfl)) (pe_tup (pa_cons pe_int (pa_cons pe_int pa_nil))) (by rfl)) (pss_one (ps_ret (pe_tup (pa_cons pe_str (pa_cons (pe_fld (pe_dget hu (pv 0) pe_str (fun _ _ => rfl)) rfl) pa_nil))))) pss_nil)
      (pss_cons (ps_dput hu (pv 0) pe_str (pv 3) rfl)
      (pss_one (ps_ret (pe_tup (pa_cons pe_str (pa_cons pe_non pa_nil))))))))), ?_⟩
    have gH : ∀ H1, H1 D = some (.dK (mF o st)) → DGet H1 D (.str "holder") (some (hv o)) := fun H1 e => .inl ⟨_, .inr "holder", .inl e, rfl, (mH o st).symm⟩
    have gS : ∀ H1, H1 D = some (.dK (mF o st)) → DGet H1 D (.str "state") (some (.ref st)) := fun H1 e => .inl ⟨_, .inr "state", .inl e, rfl, (mS o st).symm⟩
    have pH : ∀ o', DPut H D (.str "holder") (hv o') (upd H D (.dK (mF o' st))) := fun o' => by
      have := DPut.k (k := .inr "holder") (v := hv o') hD (show 2 < sizeLine by decide)
      rwa [mpH] at this
    have pS' : ∀ H1 : Hp, H1 D = some (.dK (mF o st)) → DPut H1 D (.str "state") (.ref st') (upd H1 D (.dK (mF o st'))) := fun H1 e => by
      have := DPut.k (k := .inr "state") (v := V.ref st') e (show 2 < sizeLine by decide)
      rwa [mpS] at this
    -- an answer without a change
    have plain : ∀ (wt_ : Str) (val : V) (t : Addr) (H1 : Hp), out wd o x m i = ((wt_, val), o, false) → Same H H1 → H1 t = none → Q (.ref t) (upd H1 t (.tup [.str wt_, val])) := fun wt_ val t H1 e k1 ht => by
      have ht0 : H t = none := by
        cases z : H t with
        | none => rfl
        | some u => rw [k1 _ _ z] at ht; cases ht
      refine k t _ ht0 (fun b u e nb => Same.upd k1 ht b u e) ?_ ?_
      · rw [e]
        exact Same.upd k1 ht _ _ hD
      · rw [e, upd_same]
    -- an answer with a change of m
    have chg : ∀ (wt_ : Str) (val : V) (t : Addr) (o' : Option Str) (b : Bool) (H1 : Hp), out wd o x m i = ((wt_, val), o', b) → Same H H1 → (upd H1 D (.dK (mF o' (if b = true then st' else st)))) t = none → Q (.ref t) (upd (upd H1 D (.dK (mF o' (if b = true then st' else st)))) t (.tup [.str wt_, val])) := fun wt_ val t o' b H1 e k1 ht => by
      have tD : t ≠ D := fun z => by rw [z, upd_same] at ht; cases ht
      have ht1 : H1 t = none := by rwa [upd_ne tD] at ht
      have ht0 : H t = none := by
        cases z : H t with
        | none => rfl
        | some u => rw [k1 _ _ z] at ht1; cases ht1
      refine k t _ ht0 (fun c u e nb => by rw [upd_ne (ne_of_none e ht0), upd_ne nb]; exact k1 _ _ e) ?_ ?_
      · rw [e, upd_ne (Ne.symm tD), upd_same]
      · rw [e, upd_same]
    refine ⟨_, rfl, rfl, _, rfl, ?_⟩
    by_cases hw : wd = .lock
    · subst hw
      obtain ⟨tx, rfl⟩ := hl rfl
      cases hx
      refine iteC (by decide +kernel) ⟨_, rfl, D, _, rfl, gH H hD, rfl, _, rfl, ?_⟩
      cases o with
      | some h =>
        refine iteC rfl ⟨_, rfl, D, _, rfl, gH H hD, by show 2 ≤ sizeLine; decide, fun t ht => ?_⟩
        exact plain _ _ t H rfl (Same.refl H) ht
      | none =>
        refine iteN rfl ⟨_, rfl, _, rfl, D, _, rfl, pH (some tx), by show 2 ≤ sizeLine; decide, fun t ht => ?_⟩
        exact chg _ _ t (some tx) false H rfl (Same.refl H) ht
    · have ref : isH o x = false → out wd o x m i = ((("locked" : Str), hv o), o, false) := fun e => by
        cases wd with
        | lock => exact absurd rfl hw
        | unlock => simp [out, e]
        | write => simp [out, e]
      refine iteN (by cases wd <;> first | exact absurd rfl hw | decide +kernel) ?_
      refine ⟨_, rfl, D, _, rfl, gH H hD, rfl, _, rfl, ?_⟩
      cases o with
      | none =>
        refine iteC rfl ⟨_, rfl, D, _, rfl, gH H hD, by show 2 ≤ sizeLine; decide, fun t ht => ?_⟩
        exact plain _ _ t H (ref (isH_none x)) (Same.refl H) ht
      | some h =>
        refine iteN rfl ⟨_, rfl, v, .ty "str", tyU (OS CT) x, .type "str", (strOf x).isSome, rfl, .ty _, hx.ty ok, kit_str kS x, _, rfl, ?_⟩
        cases es : strOf x with
        | none =>
          refine iteC rfl ⟨_, rfl, D, _, rfl, gH H hD, by show 2 ≤ sizeLine; decide, fun t ht => ?_⟩
          exact plain _ _ t H (ref (by cases x <;> first | rfl | simp [strOf] at es)) (Same.refl H) ht
        | some tx =>
          obtain rfl : x = .str tx := by cases x <;> simp [strOf] at es <;> rw [es]
          obtain rfl : v = .str tx := hx
          refine iteN rfl ⟨_, rfl, D, _, rfl, gH H hD, _, rfl, rfl, _, rfl, ?_⟩
          by_cases eh : h = tx
          · subst eh
            refine iteN (by simp [hv]) ?_
            refine ⟨_, rfl, rfl, _, rfl, ?_⟩
            have hh : isH (some h) (.str h : Dd) = true := by simp [isH]
            cases wd with
            | lock => exact absurd rfl hw
            | unlock =>
              refine iteC (by decide +kernel) ⟨_, rfl, D, _, rfl, pH none, by show 2 ≤ sizeLine; decide, fun t ht => ?_⟩
              exact chg _ _ t none false H (by simp [out, hh]) (Same.refl H) ht
            | write =>
              obtain ⟨dx, o1, d1, u1, hs, _⟩ := id hst
              obtain ⟨dx', o2, d2, u2, hs', _⟩ := id hst'
              refine iteN (by decide +kernel) ?_
              refine ⟨_, rfl, st', CT, dx', _, _, rfl, hs', TS.cl, TS.nS, serL, _, rfl, D, _, rfl, gS H hD, st, CT, dx, _, _, rfl, hs, TS.cl, TS.nS, serL, _, _, rfl, rfl, by show 2 ≤ sizeLine; decide, fun p hp => ?_⟩
              have kp := sm_upd (o := .tup [.int 0, .int 1]) hp
              have en : inV (.int (i - m)) [V.int 0, V.int 1] = near m i := by
                have e1 : ∀ a b : Int, eqV (.int a) (.int b) = decide (a = b) := fun a b => by rw [Bool.eq_iff_iff]; simp [eqV]
                rw [Bool.eq_iff_iff]
                simp [inV, near, e1]
                omega
              refine ⟨p, _, rfl, .inr (SqT.of upd_same), rfl, rfl, _, rfl, ?_⟩
              show if (!inV (.int (i - m)) [V.int 0, V.int 1]) = true then _ else _
              rw [en]
              cases ez : near m i with
              | false =>
                refine iteC rfl ⟨_, rfl, D, _, rfl, gS _ (kp _ _ hD), st, CT, dx, _, _, rfl, kp _ _ hs, TS.cl, TS.nS, serL, by show 2 ≤ sizeLine; decide, fun t ht => ?_⟩
                exact plain _ _ t _ (by simp [out, hh, ez]) kp ht
              | true =>
                refine iteN rfl ⟨_, rfl, _, rfl, D, _, rfl, pS' _ (kp _ _ hD), by show 2 ≤ sizeLine; decide, fun t ht => ?_⟩
                exact chg _ _ t (some h) true _ (by simp [out, hh, ez]) kp ht
          · refine iteC (by simp [hv, eh]) ⟨_, rfl, D, _, rfl, gH H hD, by show 2 ≤ sizeLine; decide, fun t ht => ?_⟩
            exact plain _ _ t H (ref (by simp [isH, eh])) (Same.refl H) ht
end
end St

set_option Elab.async false
set_option linter.all false
set_option maxRecDepth 100000
set_option maxHeartbeats 4000000
/-! what stays while a turn is played -/
namespace St
open PySem PySem.Spec PyProof.Rows L2 Dq Vl ClX LamX
/-- all but what stands at M and the tables stays -/
def Fr (M : List Addr) (H H' : Hp) : Prop := ∀ b o, H b = some o → b ∉ M → (∀ ps, o ≠ .tbl ps) → H' b = some o
theorem Fr.refl (M : List Addr) (H : Hp) : Fr M H H := fun _ _ h _ _ => h
theorem Fr.trans {M : List Addr} {H H1 H2 : Hp} (a : Fr M H H1) (b : Fr M H1 H2) : Fr M H H2 := fun c o h m n => b c o (a c o h m n) m n
theorem Fr.same {M : List Addr} {H H' : Hp} (k : Same H H') : Fr M H H' := fun b o h _ _ => k b o h
theorem Fr.ext {M : List Addr} {H H' : Hp} (k : ExtN H H') : Fr M H H' := fun b o h _ n => k b o h n
theorem Fr.but {M : List Addr} {H H' : Hp} {a : Addr} (k : Pf.But a H H') (m : a ∈ M) : Fr M H H' := fun b o h nm _ => k b o h fun e => nm (e ▸ m)
/-- neither a table nor a code object -/
structure Nt (o : HO) : Prop where
  tbl : ∀ ps, o ≠ .tbl ps
  ext : ∀ c q, o ≠ CodeO c q
theorem Nt.lst {xs} : Nt (.lst xs) := ⟨fun _ z => (by cases z), fun _ _ z => (by unfold CodeO at z; cases z)⟩
theorem Nt.dK {xs} : Nt (.dK xs) := ⟨fun _ z => (by cases z), fun _ _ z => (by unfold CodeO at z; cases z)⟩
theorem Nt.ins {C dx fs} : Nt (.ins C dx fs) := ⟨fun _ z => (by cases z), fun _ _ z => (by unfold CodeO at z; cases z)⟩
theorem tabs_but {T : List (Addr × Str)} {H H' : Hp} {a : Addr} {o : HO} (t : Tabs T H) (k : Pf.But a H H') (e : H a = some o) (n : Nt o) : Tabs T H' := fun p hp => by
  obtain ⟨ps, h1, h2, h3⟩ := t p hp
  refine ⟨ps, k _ _ h1 fun z => ?_, h2, fun pos cv hc => ?_⟩
  · rw [z, e] at h1
    exact n.tbl _ (Option.some.inj h1)
  · obtain ⟨c, e1, e2⟩ := h3 pos cv hc
    refine ⟨c, e1, k _ _ e2 fun z => ?_⟩
    rw [z, e] at e2
    exact n.ext _ _ (Option.some.inj e2)
/-- a State out of the way -/
def StM (M : List Addr) (C : Addr) (H : Hp) (a : Addr) (n s : Int) : Prop := ∃ dx o d u, H a = some (.ins C dx (flds o d u s)) ∧ H o = some (.dK []) ∧ H d = some (.dK []) ∧ H u = some (.dK [(kOut, .int n)]) ∧ a ∉ M ∧ o ∉ M ∧ d ∉ M ∧ u ∉ M
theorem StM.st {M : List Addr} {C : Addr} {H : Hp} {a : Addr} {n s : Int} (h : StM M C H a n s) : StAt C H a n s := by
  obtain ⟨dx, o, d, u, h1, h2, h3, h4, _⟩ := h
  exact ⟨dx, o, d, u, h1, h2, h3, h4⟩
theorem StM.keep {M : List Addr} {C : Addr} {H H' : Hp} {a : Addr} {n s : Int} (h : StM M C H a n s) (k : Fr M H H') : StM M C H' a n s := by
  obtain ⟨dx, o, d, u, h1, h2, h3, h4, m1, m2, m3, m4⟩ := h
  exact ⟨dx, o, d, u, k _ _ h1 m1 Nt.ins.tbl, k _ _ h2 m2 Nt.dK.tbl, k _ _ h3 m3 Nt.dK.tbl, k _ _ h4 m4 Nt.dK.tbl, m1, m2, m3, m4⟩
/-- the three that change: the well, the Store, the law's m -/
structure Three (CS aw so D : Addr) (H : Hp) (z : Int) (st1 : Addr) (o1 : Option Str) (st2 : Addr) (o2 : Option Str) : Prop where
  well : Pf.WellAt H aw z
  so : SoAt CS H so st1 o1
  dm : H D = some (.dK (mF o2 st2))
theorem Three.stM {CS CT aw so D : Addr} {H : Hp} {z : Int} {st1 st2 a : Addr} {o1 o2 : Option Str} {n s : Int} (t : Three CS aw so D H z st1 o1 st2 o2) (h : StAt CT H a n s) : StM [aw, so, D] CT H a n s := by
  obtain ⟨⟨wx, wy, hw⟩, ⟨dx, hs⟩, hd⟩ := t
  obtain ⟨dy, o, d, u, h1, h2, h3, h4⟩ := h
  have nI : ∀ {b c : Addr} {k1 k2 : HO}, H b = some k1 → H c = some k2 → k1 ≠ k2 → b ≠ c := fun e1 e2 n z => by
    rw [z, e2] at e1
    exact n (Option.some.inj e1).symm
  have out3 : ∀ {b : Addr} {k : HO}, H b = some k → k ≠ .lst [.int wx, .int wy, .int z] → k ≠ .ins CS dx [("_state", .ref st1), ("_holder", hv o1)] → k ≠ .dK (mF o2 st2) → b ∉ [aw, so, D] := fun e n1 n2 n3 hm => by
    simp only [List.mem_cons, List.not_mem_nil, or_false] at hm
    rcases hm with hm | hm | hm
    · exact nI e hw n1 hm
    · exact nI e hs n2 hm
    · exact nI e hd n3 hm
  refine ⟨dy, o, d, u, h1, h2, h3, h4, out3 h1 (fun q => by cases q) (fun q => ?_) (fun q => by cases q), out3 h2 (fun q => by cases q) (fun q => by cases q) (fun q => by cases q), out3 h3 (fun q => by cases q) (fun q => by cases q) (fun q => by cases q), out3 h4 (fun q => by cases q) (fun q => by cases q) (fun q => ?_)⟩
  · injection q with _ _ q
    have := congrArg List.length q
    simp at this
  · injection q with q
    have := congrArg List.length q
    simp at this
theorem Three.ne {CS aw so D : Addr} {H : Hp} {z : Int} {st1 st2 : Addr} {o1 o2 : Option Str} (t : Three CS aw so D H z st1 o1 st2 o2) : aw ≠ so ∧ aw ≠ D ∧ so ≠ D := by
  obtain ⟨⟨wx, wy, hw⟩, ⟨dx, hs⟩, hd⟩ := t
  exact ⟨ne_of hw hs (by intro z; cases z), ne_of hw hd (by intro z; cases z), ne_of hs hd (by intro z; cases z)⟩
theorem Three.same {CS aw so D : Addr} {H H' : Hp} {z : Int} {st1 st2 : Addr} {o1 o2 : Option Str} (t : Three CS aw so D H z st1 o1 st2 o2) (k : Same H H') : Three CS aw so D H' z st1 o1 st2 o2 := by
  obtain ⟨⟨wx, wy, hw⟩, ⟨dx, hs⟩, hd⟩ := t
  exact ⟨⟨wx, wy, k _ _ hw⟩, ⟨dx, k _ _ hs⟩, k _ _ hd⟩
theorem Three.ext {CS aw so D : Addr} {H H' : Hp} {z : Int} {st1 st2 : Addr} {o1 o2 : Option Str} (t : Three CS aw so D H z st1 o1 st2 o2) (k : ExtN H H') : Three CS aw so D H' z st1 o1 st2 o2 := by
  obtain ⟨⟨wx, wy, hw⟩, ⟨dx, hs⟩, hd⟩ := t
  exact ⟨⟨wx, wy, k _ _ hw Nt.lst.tbl⟩, ⟨dx, k _ _ hs Nt.ins.tbl⟩, k _ _ hd Nt.dK.tbl⟩
theorem Three.draw {CS aw so D : Addr} {H H' : Hp} {z z' : Int} {st1 st2 : Addr} {o1 o2 : Option Str} (t : Three CS aw so D H z st1 o1 st2 o2) (k : Pf.But aw H H') (w : Pf.WellAt H' aw z') : Three CS aw so D H' z' st1 o1 st2 o2 := by
  obtain ⟨n1, n2, n3⟩ := t.ne
  obtain ⟨_, ⟨dx, hs⟩, hd⟩ := t
  exact ⟨w, ⟨dx, k _ _ hs (Ne.symm n1)⟩, k _ _ hd (Ne.symm n2)⟩
theorem Three.onM {CS aw so D : Addr} {H H' : Hp} {z : Int} {st1 st2 st3 : Addr} {o1 o2 o3 : Option Str} (t : Three CS aw so D H z st1 o1 st2 o2) (k : Pf.But D H H') (e : H' D = some (.dK (mF o3 st3))) : Three CS aw so D H' z st1 o1 st3 o3 := by
  obtain ⟨n1, n2, n3⟩ := t.ne
  obtain ⟨⟨wx, wy, hw⟩, ⟨dx, hs⟩, hd⟩ := t
  exact ⟨⟨wx, wy, k _ _ hw n2⟩, ⟨dx, k _ _ hs n3⟩, e⟩
theorem Three.onS {CS aw so D : Addr} {H H' : Hp} {z : Int} {st1 st2 st3 : Addr} {o1 o2 o3 : Option Str} (t : Three CS aw so D H z st1 o1 st2 o2) (k : Pf.But so H H') (e : SoAt CS H' so st3 o3) : Three CS aw so D H' z st3 o3 st2 o2 := by
  obtain ⟨n1, n2, n3⟩ := t.ne
  obtain ⟨⟨wx, wy, hw⟩, ⟨dx, hs⟩, hd⟩ := t
  exact ⟨⟨wx, wy, k _ _ hw n1⟩, e, k _ _ hd (Ne.symm n3)⟩
/-- a holder that is drawn -/
inductive Hd (M : List Addr) (CT : Addr) (H : Hp) : Dd → V → Prop
  | str (t : Str) : Hd M CT H (.str t) (.str t)
  | non : Hd M CT H .non .non
  | int (i : Int) : Hd M CT H (.int i) (.int i)
  | bl (b : Bool) : Hd M CT H (.bl b) (.bl b)
  | tup (a : Addr) (h : H a = some (.tup [.str "ann"])) (m : a ∉ M) : Hd M CT H (.tup [.str "ann"]) (.ref a)
  | lst (a : Addr) (h : H a = some (.lst [])) (m : a ∉ M) : Hd M CT H (.lst []) (.ref a)
  | map (a : Addr) (h : H a = some (.dK [])) (m : a ∉ M) : Hd M CT H (.map [] []) (.ref a)
  | ob (a : Addr) (n s : Int) (h : StM M CT H a n s) : Hd M CT H (.ob (n, s)) (.ref a)
theorem Hd.keep {M : List Addr} {CT : Addr} {H H' : Hp} {x : Dd} {v : V} (h : Hd M CT H x v) (k : Fr M H H') : Hd M CT H' x v := by
  cases h with
  | str t => exact .str t
  | non => exact .non
  | int i => exact .int i
  | bl b => exact .bl b
  | tup a h m => exact .tup a (k _ _ h m fun _ z => by cases z) m
  | lst a h m => exact .lst a (k _ _ h m fun _ z => by cases z) m
  | map a h m => exact .map a (k _ _ h m fun _ z => by cases z) m
  | ob a n s h => exact .ob a n s (h.keep k)
theorem Hd.dv {M : List Addr} {CT : Addr} {H : Hp} {x : Dd} {v : V} (h : Hd M CT H x v) : Dv (OS CT) H x v ∧ wt x ≤ 100 := by
  cases h with
  | str t => exact ⟨rfl, by simp [wt]⟩
  | non => exact ⟨rfl, by simp [wt]⟩
  | int i => exact ⟨rfl, by simp [wt]⟩
  | bl b => exact ⟨rfl, by simp [wt]⟩
  | tup a h m => exact ⟨⟨a, _, rfl, h, _, _, rfl, rfl, rfl⟩, by simp [wt, wtL]⟩
  | lst a h m => exact ⟨⟨a, _, rfl, h, rfl⟩, by simp [wt, wtL]⟩
  | map a h m => exact ⟨⟨a, _, rfl, h, List.nodup_nil, rfl, rfl⟩, by simp [wt, wtL]⟩
  | ob a n s h => exact ⟨⟨a, rfl, h.st⟩, by simp [wt]⟩
end St

set_option Elab.async false
set_option linter.all false
set_option maxRecDepth 100000
set_option maxHeartbeats 4000000
namespace St
open PySem PySem.Spec PyProof.Rows L2 Dq Vl ClX LamX
theorem Same.upd' {H H1 : Hp} {p : Addr} {o : HO} (k : Same H H1) (hp : H p = none) : Same H (L2.upd H1 p o) := fun b u e => (upd_ne (ne_of_none e hp)).trans (k b u e)
theorem new_back {H H1 : Hp} {p : Addr} (k : Same H H1) (hp : H1 p = none) : H p = none := by
  cases z : H p with
  | none => rfl
  | some u => rw [k _ _ z] at hp; cases hp
/-- {}, {}, {'out': n} -/
theorem mk3 {H : Hp} {d1 d2 p : Addr} {n : Int} (e1 : H d1 = none) (e2 : upd H d1 (.dK []) d2 = none) (e3 : upd (upd H d1 (.dK [])) d2 (.dK []) p = none) :
    ∀ H3, H3 = upd (upd (upd (upd H d1 (.dK [])) d2 (.dK [])) p (.dK [])) p (.dK (mergeK [] [(kOut, .int n)])) → Same H H3 ∧ H3 d1 = some (.dK []) ∧ H3 d2 = some (.dK []) ∧ H3 p = some (.dK [(kOut, .int n)]) := by
  rintro H3 rfl
  have s1 : Same H (upd H d1 (.dK [])) := sm_upd e1
  have s2 : Same (upd H d1 (.dK [])) (upd (upd H d1 (.dK [])) d2 (.dK [])) := sm_upd e2
  have s3 : Same (upd (upd H d1 (.dK [])) d2 (.dK [])) (upd (upd (upd (upd H d1 (.dK [])) d2 (.dK [])) p (.dK [])) p (.dK (mergeK [] [(kOut, .int n)]))) := Same.upd' (sm_upd e3) e3
  exact ⟨Same.trans s1 (Same.trans s2 s3), s3 _ _ (s2 _ _ upd_same), s3 _ _ upd_same, by rw [upd_same]; rfl⟩
/-- the heap in which __init__ starts -/
theorem mk_ins {H : Hp} {x dx C : Addr} (hx : H x = none) (hd : H dx = none) (ne : dx ≠ x) : ∀ H2, H2 = upd (upd H dx (.own x)) x (.ins C dx []) → Same H H2 ∧ H2 x = some (.ins C dx []) := by
  rintro H2 rfl
  exact ⟨Same.upd' (sm_upd hd) hx, upd_same⟩
theorem same_but {H H2 H3 : Hp} {x : Addr} (hx : H x = none) (k : Same H H2) (b : ∀ c u, H2 c = some u → c ≠ x → H3 c = some u) : Same H H3 := fun c u e => b c u (k _ _ e) (ne_of_none e hx)
/-- how far a turn is -/
structure Cur (Pt CS aw so D : Addr) (q : Str) (H1 H2 : Hp) (z : Int) (st1 : Addr) (o1 : Option Str) (st2 : Addr) (o2 : Option Str) : Prop where
  fr : Fr [aw, so, D] H1 H2
  th : Three CS aw so D H2 z st1 o1 st2 o2
  tb : Tabs [(Pt, q)] H2
section
variable {Pt CS CT aw so D : Addr} {q : Str} {H1 H2 H3 : Hp} {z z' : Int} {st1 st2 st3 : Addr} {o1 o2 o3 : Option Str}
theorem Cur.same (c : Cur Pt CS aw so D q H1 H2 z st1 o1 st2 o2) (k : Same H2 H3) : Cur Pt CS aw so D q H1 H3 z st1 o1 st2 o2 := ⟨c.fr.trans (.same k), c.th.same k, c.tb.ext k⟩
theorem Cur.ext (c : Cur Pt CS aw so D q H1 H2 z st1 o1 st2 o2) (k : ExtN H2 H3) (t : Tabs [(Pt, q)] H3) : Cur Pt CS aw so D q H1 H3 z st1 o1 st2 o2 := ⟨c.fr.trans (.ext k), c.th.ext k, t⟩
theorem Cur.draw (c : Cur Pt CS aw so D q H1 H2 z st1 o1 st2 o2) (k : Pf.But aw H2 H3) (w : Pf.WellAt H3 aw z') : Cur Pt CS aw so D q H1 H3 z' st1 o1 st2 o2 := by
  obtain ⟨x, y, hw⟩ := c.th.well
  exact ⟨c.fr.trans (.but k (by simp)), c.th.draw k w, tabs_but c.tb k hw Nt.lst⟩
theorem Cur.onM (c : Cur Pt CS aw so D q H1 H2 z st1 o1 st2 o2) (k : Pf.But D H2 H3) (e : H3 D = some (.dK (mF o3 st3))) : Cur Pt CS aw so D q H1 H3 z st1 o1 st3 o3 := ⟨c.fr.trans (.but k (by simp)), c.th.onM k e, tabs_but c.tb k c.th.dm Nt.dK⟩
theorem Cur.onS (c : Cur Pt CS aw so D q H1 H2 z st1 o1 st2 o2) (k : Pf.But so H2 H3) (e : SoAt CS H3 so st3 o3) : Cur Pt CS aw so D q H1 H3 z st3 o3 st2 o2 := by
  obtain ⟨dx, h⟩ := c.th.so
  exact ⟨c.fr.trans (.but k (by simp)), c.th.onS k e, tabs_but c.tb k h Nt.ins⟩
theorem Cur.new (c : Cur Pt CS aw so D q H1 H2 z st1 o1 st2 o2) {p : Addr} (hp : H2 p = none) : p ∉ [aw, so, D] := by
  obtain ⟨⟨wx, wy, hw⟩, ⟨dx, hs⟩, hd⟩ := c.th
  intro hm
  simp only [List.mem_cons, List.not_mem_nil, or_false] at hm
  rcases hm with rfl | rfl | rfl
  · rw [hw] at hp; cases hp
  · rw [hs] at hp; cases hp
  · rw [hd] at hp; cases hp
theorem fr_back {H : Hp} (f : Fr [aw] H H1) (g : Fr [aw, so, D] H1 H2) (ns : H so = none) (nd : H D = none) : Fr [aw] H H2 := fun b o e hb nt => by
  refine g b o (f b o e hb nt) (fun hm => ?_) nt
  simp only [List.mem_cons, List.not_mem_nil, or_false] at hm hb
  rcases hm with rfl | rfl | rfl
  · exact hb rfl
  · rw [ns] at e; cases e
  · rw [nd] at e; cases e
end
end St

set_option Elab.async false
set_option linter.all false
set_option maxRecDepth 100000
set_option maxHeartbeats 8000000
/-! _law_right -/
namespace St
open PySem PySem.Spec PyProof.Rows L2 Dq Vl ClX LamX
abbrev sRight : Stmt := Pf.top 22
abbrev NRight : List Str := ["_law_well_here", "_law_first", "_law_store", "_law_m", "_law_turn", "_law_word", "_law_holder", "_law_number", "_law_state", "_law_due_here", "_law_told_here"]
theorem scRight : FnScope NRight ["_law_well_here"] (defScope sRight) := ⟨rfl, rfl, rfl, by decide +kernel, rfl, by decide +kernel, by decide +kernel⟩
abbrev qL : Str := "_law_right.<locals>.<lambda>"
def spRight (Pt : Addr) : Sp := fun vs H Q _ => ∃ (aw : Addr) (z : Int), vs = [.ref aw] ∧ Pf.WellAt H aw z ∧ 0 ≤ z ∧ z < 900000 ∧ Tabs [(Pt, qL)] H ∧
  ∀ (z' : Int) (H' : Hp), z ≤ z' → z' ≤ z + 200 → Pf.WellAt H' aw z' → Tabs [(Pt, qL)] H' → Fr [aw] H H' → Q (.bl true) H'
theorem name_of {i : Nat} {v : V} {σ : L2.St} {H : Hp} {Q : L2.St → Hp → Prop} (h : Q (σ.set i (some v)) H) : gName i v σ H Q := h
theorem tseq_id {t u : TS} {D : Ends} {σ : L2.St} {H : Hp} (h : tSeq t u D σ H) : ({ D with nx := tSeq t u D } : Ends).nx σ H := h
theorem seq_of {t u : TS} {D : Ends} {σ : L2.St} {H : Hp} (Pv : L2.St → Hp → Prop) (h : ∀ D' : Ends, (∀ σ' H', Pv σ' H' → D'.nx σ' H') → t D' σ H) (r : ∀ σ' H', Pv σ' H' → u D σ' H') : tSeq t u D σ H := h _ r
theorem out_ok {w : Wd} {o : Option Str} {x : Dd} {m s : Int} (hl : w = .lock → ∃ t, x = .str t ∧ PyData.strOk t = true) (ho : ∀ h, o = some h → PyData.strOk h = true) :
    (∀ h, (out w o x m s).2.1 = some h → PyData.strOk h = true) ∧ ((out w o x m s).1.2 = .non ∨ (∃ h, (out w o x m s).1.2 = .str h ∧ PyData.strOk h = true) ∨ ∃ i, (out w o x m s).1.2 = .int i) ∧ PyData.strOk (out w o x m s).1.1 = true := by
  have hvo : hv o = .non ∨ (∃ h, hv o = .str h ∧ PyData.strOk h = true) ∨ ∃ i, hv o = .int i := by
    cases o with
    | none => exact .inl rfl
    | some h => exact .inr (.inl ⟨h, rfl, ho h rfl⟩)
  have k1 : PyData.strOk "told" = true := by decide +kernel
  have k2 : PyData.strOk "locked" = true := by decide +kernel
  have k3 : PyData.strOk "stale" = true := by decide +kernel
  cases w with
  | lock =>
    obtain ⟨t, rfl, ht⟩ := hl rfl
    cases o with
    | none => exact ⟨fun h e => by cases e; exact ht, .inl rfl, k1⟩
    | some h => exact ⟨ho, .inr (.inl ⟨h, rfl, ho h rfl⟩), k2⟩
  | unlock =>
    cases e : isH o x with
    | true => simp only [out, e, if_true]; exact ⟨fun h e => (by cases e), .inl trivial, k1⟩
    | false => simp only [out, e]; exact ⟨ho, hvo, k2⟩
  | write =>
    cases e : isH o x with
    | true =>
      cases e2 : near m s with
      | true => simp only [out, e, e2, if_true]; exact ⟨ho, .inl trivial, k1⟩
      | false => simp only [out, e, e2, if_true]; exact ⟨ho, .inr (.inr ⟨m, rfl⟩), k3⟩
    | false => simp only [out, e]; exact ⟨ho, hvo, k2⟩
theorem outL {o d u : Addr} {s : Int} : (flds o d u s).lookup ("outputs" : Str) = some (.ref u) := (lk_tl (by decide +kernel)).trans ((lk_tl (by decide +kernel)).trans lk_hd)
/-- what the top has made -/
structure TxtR (P : Program) (w : World) (K : PySem.W.Frag) (mg : Str → Option Value) (base : Heap) (CS CT CL CZ fSI fOI fLk fUn fWr fKp fEq : Addr) (fdSI fdOI fdLk fdUn fdWr fdKp fdEq : FuncData) : Prop where
  ts : TxtS K mg CT
  to : TxtO K mg CS
  tc : TxtC K mg CL CZ
  ok : ObsOk K (OS CT)
  range : mg "range" = none
  mkS : Mk K CT fSI
  gSI : FnOk P w K mg base CX0 3 fSI fdSI NSInit (spSInit CT)
  bSI : Binds K fdSI NSInit []
  mkO : Mk K CS fOI
  gOI : FnOk P w K mg base CX0 1 fOI fdOI ["self", "state"] (spOInit CS)
  bOI : Binds K fdOI ["self", "state"] []
  mLk : Meth K CS "lock" fLk
  gLk : FnOk P w K mg base (L2.CX P w) 5 fLk fdLk ["self", "holder"] (spLock CS CL)
  bLk : Binds K fdLk ["self", "holder"] []
  mUn : Meth K CS "unlock" fUn
  gUn : FnOk P w K mg base (L2.CX P w) 6 fUn fdUn ["self", "holder"] (spUnlock CS CT CL)
  bUn : Binds K fdUn ["self", "holder"] []
  mWr : Meth K CS "write" fWr
  gWr : FnOk P w K mg base (L2.CX P w) 6 fWr fdWr ["self", "holder", "state"] (spWrite CS CT CL CZ)
  bWr : Binds K fdWr ["self", "holder", "state"] []
  mKp : Meth K CS "kept" fKp
  gKp : FnOk P w K mg base CX0 1 fKp fdKp ["self"] (spKept CS)
  bKp : Binds K fdKp ["self"] []
  eq : EqS K CT fEq
  gEq : FnOk P w K mg base CX0 3 fEq fdEq ["self", "other"] (spSEq CT)
  bEq : Binds K fdEq ["self", "other"] []
section
variable {P : Program} {w : World} {K : PySem.W.Frag} {mg : Str → Option Value} {base : Heap} {CS CT CL CZ fSI fOI fLk fUn fWr fKp fEq : Addr} {fdSI fdOI fdLk fdUn fdWr fdKp fdEq : FuncData}
theorem ok_right {f fD f1 fU fT c Pt : Addr} {fdD fd1 fdU : FuncData} {oc kV doc pm ct ocT kVT docT pmT cdT ctT : Value} {an od anT odT : Option Addr} {osl oslT : Array (Option Value)}
    (lk : K.lookup f = some ⟨oc, od, .func (PySem.W.fnOf "_law_right" "_law_right" (defArgs sRight) (defBody sRight) (defScope sRight) .none kV doc pm an (.ref c) ct), osl⟩) (hcd : PySem.W.codeIn K (.ref c) "_law_right" = true) (TB : TabB base mg c Pt)
    (lkT : K.lookup fT = some ⟨ocT, odT, .func (PySem.W.fnOf "_law_told" "_law_told" (defArgs sTold) (defBody sTold) (defScope sTold) .none kVT docT pmT anT cdT ctT), oslT⟩) (hcdT : PySem.W.codeIn K cdT "_law_told" = true) (kpT : PySem.W.keepIn K (.ref fT) = true) (gT : mg "_law_told" = some (.ref fT))
    (bT : Binds K (PySem.W.fnOf "_law_told" "_law_told" (defArgs sTold) (defBody sTold) (defScope sTold) .none kVT docT pmT anT cdT ctT) ["_law_ask"] [])
    (R : TxtR P w K mg base CS CT CL CZ fSI fOI fLk fUn fWr fKp fEq fdSI fdOI fdLk fdUn fdWr fdKp fdEq)
    (DD : Def P w K mg base 1 "_law_draw" fD fdD ["_law_well_here", "_law_often"] Pf.spDraw) (D1 : Def P w K mg base 2 "_law_one" f1 fd1 ["_law_well_here", "_law_some"] (Pf.spOne K)) (DU : Def P w K mg base 1 "_law_due" fU fdU NDue (spDue CT)) :
    FnOk P w K mg base CX0 9 f (PySem.W.fnOf "_law_right" "_law_right" (defArgs sRight) (defBody sRight) (defScope sRight) .none kV doc pm an (.ref c) ct) ["_law_well_here"] (spRight Pt) := by
  refine fn_of lk hcd scRight (fun vs H Q E h => ?_) (fun A outer s H vs Q E hr h => ?_)
  · obtain ⟨aw, z, rfl, _⟩ := h
    rfl
  · obtain ⟨aw, z, rfl, ⟨wx, wy, hw⟩, z0, z1, tb, k⟩ := h
    have main : ∃ t, PSs (cxOf CX0 P w K mg base NRight "_law_right" (defScope sRight) f (.ref c) A outer s H E).nox (defBody sRight) t ∧ t { nx := fun _ H' => Q .non H', rt := Q } (L2.start NRight [V.ref aw]) H := by
      have hu := hu_of hr
      refine ⟨_, pss_cons (ps_set (i := 1) scRight.nd rfl (Or.inl rfl) (pe_make R.mkS R.gSI (hr.mono (by decide)) rfl R.ts.mg R.bSI .nil pass0 (pa_cons pe_dnewK (pa_cons pe_dnewK (pa_cons (pe_disp (pps_cons pe_str pe_int pps_nil) (by rfl) (by rfl) (fun z => by cases z) (by decide)) (pa_cons (pe_call DD.ok (hr.mono (by decide)) rfl DD.g DD.kp DD.b .nil pass0 (pa_cons (pv 0) (pa_cons pe_int pa_nil))) pa_nil))))))
        (pss_cons (ps_asg (pe_tup (pa_cons (pe_make R.mkO R.gOI (hr.mono (by decide)) rfl R.to.mg R.bOI .nil pass0 (pa_cons (pv 1) pa_nil)) (pa_cons (pe_disp (pps_cons pe_str pe_non (pps_cons pe_str (pv 1) pps_nil)) (by rfl) (by rfl) (fun z => by cases z) (by decide)) pa_nil))) (pg_tup rfl (pgs_cons (pg_name (i := 2) scRight.nd rfl (Or.inr rfl)) (pgs_cons (pg_name (i := 3) scRight.nd rfl (Or.inl rfl)) pgs_nil))))
        (pss_cons (ps_for PassesOwn.never rfl (pi_range1 rfl R.range (pa_cons (pe_op op_add pe_int (pe_call DD.ok (hr.mono (by decide)) rfl DD.g DD.kp DD.b .nil pass0 (pa_cons (pv 0) (pa_cons pe_int pa_nil)))) pa_nil)) (pg_name (i := 4) scRight.nd rfl (Or.inl rfl))
          (pss_cons (ps_set (i := 5) scRight.nd rfl (Or.inr rfl) (pe_call D1.ok (hr.mono (by decide)) rfl D1.g D1.kp D1.b .nil pass0 (pa_cons (pv 0) (pa_cons (pe_lst (pa_cons pe_str (pa_cons pe_str (pa_cons pe_str (pa_cons pe_str (pa_cons pe_str pa_nil)))))) pa_nil))))
          (pss_cons (ps_set (i := 6) scRight.nd rfl (Or.inr rfl) (pe_call D1.ok (hr.mono (by decide)) rfl D1.g D1.kp D1.b .nil pass0 (pa_cons (pv 0) (pa_cons (pe_lst (pa_cons pe_str (pa_cons pe_str (pa_cons pe_str (pa_cons pe_str (pa_cons pe_str (pa_cons pe_str pa_nil))))))) pa_nil))))
          (pss_cons (ps_if (PW.pt (pw_and (pt_cmpR op_ne (pv 5) pe_str (nomark _)) (pw_and1 (pt_cmpR op_eq (pe_call DD.ok (hr.mono (by decide)) rfl DD.g DD.kp DD.b .nil pass0 (pa_cons (pv 0) (pa_cons pe_int pa_nil))) pe_int (nomark _)))))
            (pss_one (ps_set (i := 6) scRight.nd rfl (Or.inr rfl) (pe_call D1.ok (hr.mono (by decide)) rfl D1.g D1.kp D1.b .nil pass0 (pa_cons (pv 0) (pa_cons (pe_lst (pa_cons pe_non (pa_cons pe_int (pa_cons pe_bl (pa_cons (pe_tup (pa_cons pe_str pa_nil)) (pa_cons (pe_lst pa_nil) (pa_cons pe_dnewK (pa_cons (pv 1) pa_nil)))))))) pa_nil))))) pss_nil)
          (pss_cons (ps_set (i := 7) scRight.nd rfl (Or.inl rfl) (pe_op op_add (pe_fld (pe_dget hu (pv 3) pe_str (fun _ _ => rfl)) rfl) (pe_call D1.ok (hr.mono (by decide)) rfl D1.g D1.kp D1.b .nil pass0 (pa_cons (pv 0) (pa_cons (pe_lst (pa_cons pe_int (pa_cons pe_int (pa_cons pe_int (pa_cons pe_int (pa_cons pe_int (pa_cons (pe_un un_neg pe_int) (pa_cons pe_int pa_nil)))))))) pa_nil)))))
          (pss_cons (ps_set (i := 8) scRight.nd rfl (Or.inr rfl) (pe_make R.mkS R.gSI (hr.mono (by decide)) rfl R.ts.mg R.bSI .nil pass0 (pa_cons pe_dnewK (pa_cons pe_dnewK (pa_cons (pe_disp (pps_cons pe_str (pv 4) pps_nil) (by rfl) (by rfl) (fun z => by cases z) (by decide)) (pa_cons (pv 7) pa_nil))))))
          (pss_cons (ps_set (i := 9) scRight.nd rfl (Or.inl rfl) (pe_call DU.ok (hr.mono (by decide)) rfl DU.g DU.kp DU.b .nil pass0 (pa_cons (pv 3) (pa_cons (pv 5) (pa_cons (pv 6) (pa_cons (pv 8) pa_nil))))))
          (pss_cons (ps_if (pt_cmpR op_eq (pv 5) pe_str (nomark _))
            (pss_one (ps_set (i := 10) scRight.nd rfl (Or.inl rfl) (pe_lamcall (k := 6) (T := [(Pt, qL)]) (t := fun E => tMeth CS "write" (spWrite CS CT CL CZ) [] E (tVar 2) (tCons (tVar 6) (tCons (tVar 8) tNil))) rfl gT kpT lkT hcdT bT scTold rfl (.inl rfl) (told_gives2 R.tc) TB rfl (List.mem_singleton.mpr rfl) (fun p hp _ => by rw [List.mem_singleton.mp hp]; rfl) hr (lamS_by (sc := defScope sRight) (by decide +kernel)) rfl (fun _ _ _ _ _ => rfl)
              (fun A outer s H E f c' hr' => pe_meth (E := E) (pv 2) R.to.cl R.mWr R.gWr hr' R.bWr .nil (passes_call (takes_of rfl rfl rfl rfl) fun _ _ _ _ h => h) (pa_cons (pv 6) (pa_cons (pv 8) pa_nil))))))
            (pss_one (ps_set (i := 10) scRight.nd rfl (Or.inl rfl) (pe_lamcall (k := 6) (T := [(Pt, qL)]) (t := fun E => _) rfl gT kpT lkT hcdT bT scTold rfl (.inl rfl) (told_gives2 R.tc) TB rfl (List.mem_singleton.mpr rfl) (fun p hp _ => by rw [List.mem_singleton.mp hp]; rfl) hr (lamS_by (sc := defScope sRight) (by decide +kernel)) rfl (fun _ _ _ _ _ => rfl)
              (fun A outer s H E f c' hr' => pe_ifExp (pt_cmpR op_eq (pv 5) pe_str (nomark _)) (pe_meth (E := E) (pv 2) R.to.cl R.mLk R.gLk (hr'.mono (by decide)) R.bLk .nil (passes_call (takes_of rfl rfl rfl rfl) fun _ _ _ _ h => h) (pa_cons (pv 6) pa_nil))
                (pe_meth (E := E) (pv 2) R.to.cl R.mUn R.gUn hr' R.bUn .nil (passes_call (takes_of rfl rfl rfl rfl) fun _ _ _ _ h => h) (pa_cons (pv 6) pa_nil)))))))
          (pss_one (ps_if (PW.pt (pw_or (pt_cmpR (op_neD hr.units) (pv 10) (pv 9) (nomark _)) (pw_or (pt_not (pt_cmpR (op_eqS R.ok R.eq R.gEq R.bEq (hr.mono (by decide))) (pe_meth0 (pv 2) R.to.cl R.mKp R.gKp (hr.mono (by decide)) R.bKp .nil pass0) (pe_dget hu (pv 3) pe_str (fun _ _ => rfl)) (nomark _)))
              (pw_or1 (pt_cmpR (op_ne_dictA hr.units0) (pe_fld (pe_meth0 (pv 2) R.to.cl R.mKp R.gKp (hr.mono (by decide)) R.bKp .nil pass0) rfl) (pe_fld (pe_dget hu (pv 3) pe_str (fun _ _ => rfl)) rfl) (nomark _)))))) (pss_one (ps_ret pe_bl)) pss_nil))))))))))
        (pss_one (ps_ret pe_bl)))), ?_⟩
      refine fun d1 e1 d2 e2 p ep => ⟨upd_same, [(kOut, .int 0)], rfl, by decide, ?_⟩
      generalize eH : upd (upd (upd (upd H d1 (.dK [])) d2 (.dK [])) p (.dK [])) p (.dK (mergeK [] [(kOut, .int 0)])) = H3
      obtain ⟨s3, a1, a2, a3⟩ := mk3 e1 e2 ep H3 eH.symm
      clear eH
      refine ⟨_, rfl, aw, 5, z, rfl, ⟨wx, wy, s3 _ _ hw⟩, by decide, by decide, z0, by omega, fun m0 z2 H4 m00 m01 z21 z22 w4 b4 => ?_⟩
      have np : ∀ {b : Addr} {o : HO}, H3 b = some o → o ≠ .lst [.int wx, .int wy, .int z] → H4 b = some o := fun e n => b4 _ _ e (ne_of e (s3 _ _ hw) n)
      have f4 : Fr [aw] H H4 := (Fr.same s3).trans (Fr.but b4 (by simp))
      have t4 : Tabs [(Pt, qL)] H4 := tabs_but (tb.ext s3) b4 (s3 _ _ hw) Nt.lst
      refine fun x dx hx hdx ne => ?_
      generalize eH : upd (upd H4 dx (.own x)) x (.ins CT dx []) = H5
      obtain ⟨s5, a5⟩ := mk_ins (C := CT) hx hdx ne H5 eH.symm
      clear eH
      refine ⟨x, dx, d1, d2, p, 0, m0, rfl, a5, s5 _ _ (np a1 (by intro z; cases z)), s5 _ _ (np a2 (by intro z; cases z)), s5 _ _ (np a3 (by intro z; cases z)), fun H6 b6 st6 => ⟨rfl, ?_⟩⟩
      have s6 : Same H4 H6 := same_but hx s5 b6
      clear s5 a5 b6
      refine ⟨_, rfl, fun so dxs hso hdxs nes => ?_⟩
      have nso : H so = none := by
        have := new_back s6 hso
        cases zz : H so with
        | none => rfl
        | some u =>
          by_cases e : so = aw
          · obtain ⟨_, _, w4'⟩ := id w4
            rw [e, w4'] at this
            cases this
          · rw [b4 _ _ (s3 _ _ zz) e] at this
            cases this
      generalize eH : upd (upd H6 dxs (.own so)) so (.ins CS dxs []) = H7
      obtain ⟨s7, a7⟩ := mk_ins (C := CS) hso hdxs nes H7 eH.symm
      clear eH
      refine ⟨so, dxs, x, rfl, a7, fun H8 b8 o8 => ⟨rfl, ?_⟩⟩
      have s8 : Same H6 H8 := same_but hso s7 b8
      clear s7 a7 b8
      refine fun D hD => ⟨_, rfl, upd_same, mF none x, rfl, by show 2 ≤ 15; decide, ?_⟩
      have nD : H D = none := by
        have := new_back s6 (new_back s8 hD)
        cases zz : H D with
        | none => rfl
        | some u =>
          by_cases e : D = aw
          · obtain ⟨_, _, w4'⟩ := id w4
            rw [e, w4'] at this
            cases this
          · rw [b4 _ _ (s3 _ _ zz) e] at this
            cases this
      have s9 : Same H8 (upd (upd H8 D (.dK [])) D (.dK (mergeK [] (mF none x)))) := Same.upd' (sm_upd hD) hD
      have a9 : (upd (upd H8 D (.dK [])) D (.dK (mergeK [] (mF none x)))) D = some (.dK (mF none x)) := by rw [upd_same]; rfl
      generalize (upd (upd H8 D (.dK [])) D (.dK (mergeK [] (mF none x)))) = H9 at s9 a9 ⊢
      refine ⟨by show 2 ≤ sizeLine; decide, fun t ht => ?_⟩
      have s10 : Same H9 (upd H9 t (.tup [.ref so, .ref D])) := sm_upd ht
      refine ⟨t, _, rfl, SqT.of upd_same, rfl, ?_⟩
      generalize (upd H9 t (.tup [.ref so, .ref D])) = H10 at s10 ⊢
      have s610 : Same H6 H10 := Same.trans s8 (Same.trans s9 s10)
      have s410 : Same H4 H10 := Same.trans s6 s610
      have th10 : Three CS aw so D H10 z2 x none x none := by
        obtain ⟨u1, u2, w4'⟩ := id w4
        exact ⟨⟨u1, u2, s410 _ _ w4'⟩, (o8.keep s9).keep s10, s10 _ _ a9⟩
      have f10 : Fr [aw] H H10 := f4.trans (.same s410)
      have t10 : Tabs [(Pt, qL)] H10 := t4.ext s410
      have x10 : StM [aw, so, D] CT H10 x 0 m0 := th10.stM (st6.keep s610)
      clear s3 a1 a2 a3 np f4 t4 st6 s6 o8 s8 s9 a9 s10 s610 s410 hD ht hso hdxs
      refine ⟨_, _, rfl, _, _, rfl, rfl, _, rfl, aw, 26, z2, rfl, th10.well, by decide, by decide, by omega, by omega, fun r z3 H11 r0 r1 z31 z32 w11 b11 => ⟨_, _, rfl, rfl, 5 + r, rfl, by omega, by omega, ?_⟩⟩
      have f11 : Fr [aw] H H11 := f10.trans (.but b11 (by simp))
      have c11 : Cur Pt CS aw so D qL H11 H11 z3 x none x none := ⟨Fr.refl _ _, th10.draw b11 w11, tabs_but t10 b11 th10.well.choose_spec.choose_spec Nt.lst⟩
      have x11 : StM [aw, so, D] CT H11 x 0 m0 := x10.keep (.but b11 (by simp))
      clear f10 th10 t10 x10 b11 w11 w4
      refine for_range (lo := 0) (n := (5 + r).toNat) (fun i σ H' => (∃ v4 v5 v6 v7 v8 v9 v10 : Option V, σ = [some (.ref aw), some (.ref x), some (.ref so), some (.ref D), v4, v5, v6, v7, v8, v9, v10]) ∧
          ∃ (st : Addr) (o : Option Str) (n m zz : Int), Cur Pt CS aw so D qL H11 H' zz st o st o ∧ StM [aw, so, D] CT H' st n m ∧ (∀ h, o = some h → PyData.strOk h = true) ∧ z3 ≤ zz ∧ zz ≤ z3 + 5 * (i : Int))
        ⟨⟨_, _, _, _, _, _, _, rfl⟩, x, none, 0, m0, z3, c11, x11, (fun h e => nomatch e), by omega, by omega⟩ ?_ ?_
      rotate_left
      · rintro σ H12 ⟨⟨v4, v5, v6, v7, v8, v9, v10, rfl⟩, st, o, n, m, zz, c12, -, -, zz1, zz2⟩
        have hn : ((5 + r).toNat : Int) = 5 + r := Int.toNat_of_nonneg (by omega)
        exact k zz H12 (by omega) (by omega) c12.th.well c12.tb (fr_back f11 c12.fr nso nD)
      rintro i σ H12 hi ⟨⟨v4, v5, v6, v7, v8, v9, v10, rfl⟩, st, o, n, m, zz, c12, s12, oOk, zz1, zz2⟩
      have hn : ((5 + r).toNat : Int) = 5 + r := Int.toNat_of_nonneg (by omega)
      have hi30 : (i : Int) < 31 := by omega
      have c0 : Cur Pt CS aw so D qL H12 H12 zz st o st o := ⟨Fr.refl _ _, c12.th, c12.tb⟩
      -- the word
      refine ⟨_, rfl, by show 5 ≤ sizeLine; decide, fun l hl => ?_⟩
      have c1 := c0.same (sm_upd (o := .lst [V.str "lock", V.str "unlock", V.str "write", V.str "write", V.str "write"]) hl)
      refine ⟨aw, l, zz, _, rfl, c1.th.well, upd_same, (fun e => c0.new hl (by rw [e]; simp)), by show 0 < 5; decide, by show 5 < 1000000; decide, by omega, by omega, fun v z4 H13 hv z41 z42 w13 b13 => ?_⟩
      have c2 := c1.draw b13 w13
      obtain ⟨wd, rfl⟩ : ∃ wd : Wd, v = .str wd.s := by
        simp only [List.mem_cons, List.not_mem_nil, or_false] at hv
        rcases hv with rfl | rfl | rfl | rfl | rfl
        · exact ⟨.lock, rfl⟩
        · exact ⟨.unlock, rfl⟩
        all_goals exact ⟨.write, rfl⟩
      clear hl w13 b13 hv c1
      -- the holder
      refine ⟨_, rfl, by show 6 ≤ sizeLine; decide, fun l2 hl => ?_⟩
      have c3 := c2.same (sm_upd (o := .lst [V.str "ann", V.str "ben", V.str "ann", V.str "ann", V.str "", V.str "ben"]) hl)
      refine ⟨aw, l2, z4, _, rfl, c3.th.well, upd_same, (fun e => c2.new hl (by rw [e]; simp)), by show 0 < 6; decide, by show 6 < 1000000; decide, by omega, by omega, fun v z5 H14 hv z51 z52 w13 b13 => ?_⟩
      have c4 := c3.draw b13 w13
      obtain ⟨t0, rfl, ht0⟩ : ∃ t : Str, v = .str t ∧ PyData.strOk t = true := by
        simp only [List.mem_cons, List.not_mem_nil, or_false] at hv
        rcases hv with rfl | rfl | rfl | rfl | rfl | rfl
        all_goals exact ⟨_, rfl, by decide +kernel⟩
      clear hl w13 b13 hv c2 c3
      -- another one
      refine name_of ?_
      refine tseq_id ?_
      refine seq_of (fun σ' H' => ∃ (v : V) (xh : Dd) (z6 : Int), σ' = [some (.ref aw), some (.ref x), some (.ref so), some (.ref D), some (.int (0 + (i : Int))), some (.str wd.s), some v, v7, v8, v9, v10] ∧ Cur Pt CS aw so D qL H12 H' z6 st o st o ∧ Hd [aw, so, D] CT H' xh v ∧ (wd = .lock → ∃ t, xh = .str t ∧ PyData.strOk t = true) ∧ z5 ≤ z6 ∧ z6 ≤ z5 + 2) (fun D' hD' => ?_) (fun σ' H15 hP => ?_)
      · refine ⟨_, rfl, rfl, _, rfl, ?_⟩
        by_cases hw : wd = .lock
        · subst hw
          refine iteN (by decide +kernel) (iteN rfl ?_)
          exact hD' _ _ ⟨_, .str t0, z5, rfl, c4, .str t0, fun _ => ⟨t0, rfl, ht0⟩, by omega, by omega⟩
        refine iteC (by cases wd <;> first | exact absurd rfl hw | decide +kernel) ?_
        refine ⟨_, rfl, aw, 6, z5, rfl, c4.th.well, by decide, by decide, by omega, by omega, fun g z6 H15 _ _ z61 z62 w15 b15 => ⟨rfl, _, rfl, ?_⟩⟩
        have c5 := c4.draw b15 w15
        by_cases hg : g = 0
        · refine iteC (by simp [hg]) ?_
          refine ⟨_, rfl, by show 1 ≤ sizeLine; decide, fun t ht => ⟨by show 0 ≤ sizeLine; decide, fun l3 hl3 => fun d3 hd3 => ⟨_, rfl, by show 7 ≤ sizeLine; decide, fun l4 hl4 => ?_⟩⟩⟩
          have q1 := sm_upd (o := .tup [V.str "ann"]) ht
          have q2 := sm_upd (o := .lst []) hl3
          have q3 := sm_upd (o := .dK []) hd3
          have q4 := sm_upd (o := .lst [V.non, V.int 1, V.bl true, V.ref t, V.ref l3, V.ref d3, V.ref x]) hl4
          have n1 := c5.new ht
          have n2 := (c5.same q1).new hl3
          have n3 := ((c5.same q1).same q2).new hd3
          have n4 := (((c5.same q1).same q2).same q3).new hl4
          have c9 := (((c5.same q1).same q2).same q3).same q4
          have g1 := q4 _ _ (q3 _ _ (q2 _ _ upd_same))
          have g2 := q4 _ _ (q3 _ _ upd_same)
          have g3 := q4 _ _ upd_same
          have g4 : (upd (upd (upd (upd H15 t (.tup [V.str "ann"])) l3 (.lst [])) d3 (.dK [])) l4 (.lst [V.non, V.int 1, V.bl true, V.ref t, V.ref l3, V.ref d3, V.ref x])) l4 = _ := upd_same
          refine ⟨aw, l4, z6, _, rfl, c9.th.well, g4, (fun e => n4 (by rw [e]; simp)), by show 0 < 7; decide, by show 7 < 1000000; decide, by omega, by omega, fun v z7 H16 hv z71 z72 w16 b16 => ?_⟩
          have c10 := c9.draw b16 w16
          have f10 : Fr [aw, so, D] _ H16 := .but b16 (by simp)
          have fin : ∀ xh, Hd [aw, so, D] CT H16 xh v → D'.nx _ H16 := fun xh hx => hD' _ _ ⟨v, xh, z7, rfl, c10, hx, fun e => absurd e hw, by omega, by omega⟩
          simp only [List.mem_cons, List.not_mem_nil, or_false] at hv
          rcases hv with rfl | rfl | rfl | rfl | rfl | rfl | rfl
          · exact fin _ .non
          · exact fin _ (.int 1)
          · exact fin _ (.bl true)
          · exact fin _ (.tup t (f10 _ _ g1 n1 (fun _ z => by cases z)) n1)
          · exact fin _ (.lst l3 (f10 _ _ g2 n2 (fun _ z => by cases z)) n2)
          · exact fin _ (.map d3 (f10 _ _ g3 n3 (fun _ z => by cases z)) n3)
          · exact fin _ (.ob x 0 m0 ((x11.keep c12.fr).keep c10.fr))
        · refine iteN (by simp [hg]) ?_
          exact hD' _ _ ⟨_, .str t0, z6, rfl, c5, .str t0, fun e => absurd e hw, by omega, by omega⟩
      obtain ⟨v, xh, z6, rfl, c6, hh, hlk, z61, z62⟩ := hP
      -- the number
      have s15 := s12.keep c6.fr
      obtain ⟨dx', _, _, _, hs, _⟩ := id s15.st
      refine ⟨_, rfl, D, _, rfl, .inl ⟨_, .inr "state", .inl c6.th.dm, rfl, (mS o st).symm⟩, st, CT, dx', _, _, rfl, hs, R.ts.cl, R.ts.nS, serL, _, rfl, 1, rfl, by show 7 ≤ sizeLine; decide, fun l5 hl5 => ?_⟩
      have c7 := c6.same (sm_upd (o := .lst [V.int 1, V.int 1, V.int 1, V.int 0, V.int 2, V.int (-1), V.int 10]) hl5)
      refine ⟨aw, l5, z6, _, rfl, c7.th.well, upd_same, (fun e => c6.new hl5 (by rw [e]; simp)), by show 0 < 7; decide, by show 7 < 1000000; decide, by omega, by omega, fun v' z7 H16 hv z71 z72 w16 b16 => ?_⟩
      have c8 := c7.draw b16 w16
      have hh8 : Hd [aw, so, D] CT H16 xh v := (hh.keep (.same (sm_upd hl5))).keep (.but b16 (by simp))
      obtain ⟨j, rfl⟩ : ∃ j : Int, v' = .int j := by
        simp only [List.mem_cons, List.not_mem_nil, or_false] at hv
        rcases hv with rfl | rfl | rfl | rfl | rfl | rfl | rfl
        all_goals exact ⟨_, rfl⟩
      refine ⟨_, _, rfl, rfl, ?_⟩
      clear hv w16 b16 c7 hs s15 hl5 hh
      -- the new State
      refine fun d1 e1 d2 e2 p ep => ⟨_, rfl, upd_same, [(kOut, .int (0 + (i : Int)))], rfl, by show 1 ≤ 15; decide, _, rfl, ?_⟩
      generalize eH : upd (upd (upd (upd H16 d1 (.dK [])) d2 (.dK [])) p (.dK [])) p (.dK (mergeK [] [(kOut, .int (0 + (i : Int)))])) = H17
      obtain ⟨s17, a1, a2, a3⟩ := mk3 e1 e2 ep H17 eH.symm
      clear eH
      refine fun x2 dx hx hdx ne => ?_
      generalize eH : upd (upd H17 dx (.own x2)) x2 (.ins CT dx []) = H18
      obtain ⟨s18, a18⟩ := mk_ins (C := CT) hx hdx ne H18 eH.symm
      clear eH
      refine ⟨x2, dx, d1, d2, p, 0 + (i : Int), m + j, rfl, a18, s18 _ _ a1, s18 _ _ a2, s18 _ _ a3, fun H19 b19 st19 => ⟨rfl, ?_⟩⟩
      have s19 : Same H16 H19 := Same.trans s17 (same_but hx s18 b19)
      have c9 := c8.same s19
      have y9 := c9.th.stM st19
      have hh9 := hh8.keep (Fr.same (M := [aw, so, D]) s19)
      have s20 := s12.keep c9.fr
      clear s17 a1 a2 a3 s18 a18 st19 b19 hh8 hx hdx
      -- what is due
      refine ⟨_, rfl, _, rfl, _, rfl, _, rfl, D, st, x2, o, wd, v, xh, n, m, 0 + (i : Int), m + j, rfl, c9.th.dm, s20.st, y9.st, hh9.dv.1, (fun e => (hlk e).imp fun _ h => h.1), fun td H20 htd b20 e20 e21 => ?_⟩
      have c10 := c9.onM b20 e20
      have ntd := c9.new htd
      have f20 : Fr [aw, so, D] H19 H20 := .but b20 (by simp)
      have y10 := y9.keep f20
      have s21 := s20.keep f20
      have hh10 := hh9.keep f20
      clear b20 f20 htd y9 s20 hh9
      obtain ⟨ok1, ok2, ok3⟩ := out_ok (s := m + j) (m := m) hlk oOk
      generalize eO : out wd o xh m (m + j) = O at c10 e20 e21 ok1 ok2 ok3
      obtain ⟨⟨wt_, val⟩, o2, b2⟩ := O
      -- what is told
      refine name_of ?_
      refine tseq_id ?_
      refine seq_of (fun σ' H' => ∃ (tt : Addr), σ' = [some (.ref aw), some (.ref x), some (.ref so), some (.ref D), some (.int (0 + (i : Int))), some (.str wd.s), some v, some (.int (m + j)), some (.ref x2), some (.ref td), some (.ref tt)] ∧
          Cur Pt CS aw so D qL H12 H' z7 (if b2 = true then x2 else st) o2 (if b2 = true then x2 else st) o2 ∧ StM [aw, so, D] CT H' x2 (0 + (i : Int)) (m + j) ∧ StM [aw, so, D] CT H' st n m ∧ H' td = some (.tup [.str wt_, val]) ∧ H' tt = some (.tup [.str wt_, val])) (fun D' hD' => ?_) (fun σ' H21 hP => ?_)
      · have fin : ∀ (H3 : Hp) (tt : Addr), H3 tt = none → Cur Pt CS aw so D qL H12 H3 z7 (if b2 = true then x2 else st) o2 (if b2 = true then x2 else st) o2 → StM [aw, so, D] CT H3 x2 (0 + (i : Int)) (m + j) → StM [aw, so, D] CT H3 st n m → H3 td = some (.tup [.str wt_, val]) →
            D'.nx [some (.ref aw), some (.ref x), some (.ref so), some (.ref D), some (.int (0 + (i : Int))), some (.str wd.s), some v, some (.int (m + j)), some (.ref x2), some (.ref td), some (.ref tt)] (upd H3 tt (.tup [.str wt_, val])) := fun H3 tt ht c y s e => by
          have kk := sm_upd (o := .tup [.str wt_, val]) ht
          exact hD' _ _ ⟨tt, rfl, c.same kk, y.keep (.same kk), s.keep (.same kk), kk _ _ e, upd_same⟩
        refine ⟨_, rfl, rfl, _, rfl, ?_⟩
        by_cases hw : wd = .write
        · subst hw
          refine iteC (by decide +kernel) ⟨c10.tb, fun H1 eN tT => ?_⟩
          have c11 := c10.ext eN tT
          have y11 := y10.keep (Fr.ext (M := [aw, so, D]) eN)
          have s22 := s21.keep (Fr.ext (M := [aw, so, D]) eN)
          have hh11 := hh10.keep (Fr.ext (M := [aw, so, D]) eN)
          have etd : H1 td = some (.tup [.str wt_, val]) := eN _ _ e21 (fun _ z => by cases z)
          obtain ⟨dxo, hso1⟩ := id c11.th.so
          refine ⟨_, rfl, so, dxo, _, rfl, hso1, fN (by decide +kernel) (by decide +kernel), _, rfl, _, rfl, so, st, x2, o, v, xh, n, m, 0 + (i : Int), m + j, rfl, c11.th.so, s22.st, y11.st, hh11.dv.1, hh11.dv.2, fun hz => ?_, fun hz hn => ?_, fun hz hn H3 b3 o3 => ?_⟩
          · have eO' : ((("locked" : Str), hv o), o, false) = ((wt_, val), o2, b2) := by rw [← eO]; simp [out, hz]
            cases eO'
            exact fun d p H3 nd k3 e3 => ⟨d, p, hv o, rfl, .inl ⟨rfl, e3, fun t ht => fin H3 t ht (c11.same k3) (y11.keep (.same k3)) (s22.keep (.same k3)) (k3 _ _ etd)⟩⟩
          · have eO' : ((("stale" : Str), V.int m), o, false) = ((wt_, val), o2, b2) := by rw [← eO]; simp [out, hz, hn]
            cases eO'
            exact fun d p H3 nd k3 e3 => ⟨d, p, .int m, rfl, .inr ⟨rfl, e3, fun t ht => fin H3 t ht (c11.same k3) (y11.keep (.same k3)) (s22.keep (.same k3)) (k3 _ _ etd)⟩⟩
          · have eO' : ((("told" : Str), V.non), o, true) = ((wt_, val), o2, b2) := by rw [← eO]; simp [out, hz, hn]
            cases eO'
            exact ⟨by show 2 ≤ sizeLine; decide, fun t ht => fin H3 t ht (c11.onS b3 o3) (y11.keep (.but b3 (by simp))) (s22.keep (.but b3 (by simp))) (b3 _ _ etd (ne_of etd hso1 (by intro z; cases z)))⟩
        · refine iteN (by cases wd <;> first | exact absurd rfl hw | decide +kernel) ⟨c10.tb, fun H1 eN tT => ?_⟩
          have c11 := c10.ext eN tT
          have y11 := y10.keep (Fr.ext (M := [aw, so, D]) eN)
          have s22 := s21.keep (Fr.ext (M := [aw, so, D]) eN)
          have hh11 := hh10.keep (Fr.ext (M := [aw, so, D]) eN)
          have etd : H1 td = some (.tup [.str wt_, val]) := eN _ _ e21 (fun _ z => by cases z)
          obtain ⟨dxo, hso1⟩ := id c11.th.so
          refine ⟨_, rfl, rfl, _, rfl, ?_⟩
          cases wd with
          | write => exact absurd rfl hw
          | lock =>
            obtain ⟨tx, rfl, _⟩ := hlk rfl
            cases hh11
            refine iteC (by decide +kernel) ⟨_, rfl, so, dxo, _, rfl, hso1, fN (by decide +kernel) (by decide +kernel), _, rfl, so, st, o, tx, rfl, c11.th.so, fun hz => ?_, fun hz H3 b3 o3 => ?_⟩
            · cases o with
              | none => exact absurd rfl hz
              | some h =>
                cases eO
                exact fun d p H3 nd k3 e3 => ⟨d, p, .str h, rfl, .inl ⟨rfl, e3, fun t ht => fin H3 t ht (c11.same k3) (y11.keep (.same k3)) (s22.keep (.same k3)) (k3 _ _ etd)⟩⟩
            · subst hz
              cases eO
              exact ⟨by show 2 ≤ sizeLine; decide, fun t ht => fin H3 t ht (c11.onS b3 o3) (y11.keep (.but b3 (by simp))) (s22.keep (.but b3 (by simp))) (b3 _ _ etd (ne_of etd hso1 (by intro z; cases z)))⟩
          | unlock =>
            refine iteN (by decide +kernel) ⟨_, rfl, so, dxo, _, rfl, hso1, fN (by decide +kernel) (by decide +kernel), _, rfl, so, st, o, v, xh, rfl, c11.th.so, hh11.dv.1, hh11.dv.2, fun hz => ?_, fun hz H3 b3 o3 => ?_⟩
            · have eO' : ((("locked" : Str), hv o), o, false) = ((wt_, val), o2, b2) := by rw [← eO]; simp [out, hz]
              cases eO'
              exact fun d p H3 nd k3 e3 => ⟨d, p, hv o, rfl, .inl ⟨rfl, e3, fun t ht => fin H3 t ht (c11.same k3) (y11.keep (.same k3)) (s22.keep (.same k3)) (k3 _ _ etd)⟩⟩
            · have eO' : ((("told" : Str), V.non), none, false) = ((wt_, val), o2, b2) := by rw [← eO]; simp [out, hz]
              cases eO'
              exact ⟨by show 2 ≤ sizeLine; decide, fun t ht => fin H3 t ht (c11.onS b3 o3) (y11.keep (.but b3 (by simp))) (s22.keep (.but b3 (by simp))) (b3 _ _ etd (ne_of etd hso1 (by intro z; cases z)))⟩
      obtain ⟨tt, rfl, c12', y12, s23, etd, ett⟩ := hP
      obtain ⟨e, hDp, hsh⟩ : ∃ e : PyData, (∀ H, Dp K H val e) ∧ SeqAt.shaped (.tuple [.str wt_, e]) = true := by
        have ok3' : PyData.strOk wt_ = true := ok3
        rcases ok2 with h | ⟨h, h1, h2⟩ | ⟨i', h⟩
        · cases (show val = _ from h)
          exact ⟨.none, fun _ => .non, by simp [SeqAt.shaped, PyData.canLay0, PyData.canLayAll0, ok3', PyData.depth, PyData.depthAll]⟩
        · cases (show val = _ from h1)
          exact ⟨.str h, fun _ => .str h, by simp [SeqAt.shaped, PyData.canLay0, PyData.canLayAll0, ok3', h2, PyData.depth, PyData.depthAll]⟩
        · cases (show val = _ from h)
          exact ⟨.int i', fun _ => .int i', by simp [SeqAt.shaped, PyData.canLay0, PyData.canLayAll0, ok3', PyData.depth, PyData.depthAll]⟩
      obtain ⟨n2, s2, hS⟩ : ∃ n2 s2, StM [aw, so, D] CT H21 (if b2 = true then x2 else st) n2 s2 := by
        cases b2 with
        | true => exact ⟨_, _, y12⟩
        | false => exact ⟨_, _, s23⟩
      generalize (if b2 = true then x2 else st) = st2 at c12' hS
      obtain ⟨dxo, hso1⟩ := id c12'.th.so
      have dp : ∀ t, H21 t = some (.tup [.str wt_, val]) → Dp K H21 (.ref t) (.tuple [.str wt_, e]) := fun t h => .tup (SqT.of h) (.cons (.str _) (.cons (hDp _) .nil))
      refine ⟨_, rfl, _, rfl, _, _, dp _ ett, dp _ etd, hsh, hsh, _, rfl, iteN (by rw [SeqAt.eqv_refl _ (SeqAt.canLay_of_shaped hsh)]; rfl) ?_⟩
      refine ⟨_, rfl, so, dxo, _, rfl, hso1, fN (by decide +kernel) (by decide +kernel), so, st2, o2, rfl, c12'.th.so, _, rfl, D, _, rfl, .inl ⟨_, .inr "state", .inl c12'.th.dm, rfl, (mS o2 st2).symm⟩, (n2, s2), (n2, s2), ⟨_, rfl, hS.st⟩, ⟨_, rfl, hS.st⟩, rfl, fun H22 k22 => ⟨_, rfl, iteN (by simp [OS]) ?_⟩⟩
      have c13 := c12'.same k22
      have hS2 := hS.keep (Fr.same (M := [aw, so, D]) k22)
      obtain ⟨dx2, o3, d3, u3, g1, g2, g3, g4, _⟩ := id hS2
      refine ⟨_, rfl, so, dxo, _, rfl, k22 _ _ hso1, fN (by decide +kernel) (by decide +kernel), so, st2, o2, rfl, c13.th.so, st2, CT, dx2, _, _, rfl, g1, R.ts.cl, R.ts.nU, outL, _, rfl, D, _, rfl, .inl ⟨_, .inr "state", .inl c13.th.dm, rfl, (mS o2 st2).symm⟩, st2, CT, dx2, _, _, rfl, g1, R.ts.cl, R.ts.nU, outL, u3, u3, _, _, rfl, rfl, g4, g4, rfl, (fun p hp => ?_), _, rfl, iteN rfl ?_⟩
      · rw [List.mem_singleton.mp hp]
        exact ⟨by simp [valV], rfl⟩
      · exact ⟨⟨_, _, _, _, _, _, _, rfl⟩, st2, o2, n2, s2, z7, ⟨c12.fr.trans c13.fr, c13.th, c13.tb⟩, hS2, ok1, by omega, by push_cast; omega⟩
    obtain ⟨t, h1, h2⟩ := main
    exact ⟨t, h1.nox, h2⟩
end
end St

set_option Elab.async false
set_option linter.all false
set_option maxRecDepth 100000
set_option maxHeartbeats 4000000
/-! _law_cell_at, law -/
namespace St
open PySem PySem.Spec PyProof.Rows L2 Dq Vl ClX LamX
abbrev sCell : Stmt := Pf.top 16
abbrev sLaw : Stmt := Pf.top 23
abbrev NLaw : List Str := ["_law_script", "_law_cell", "_law_well_here", "_law_turn"]
theorem scCell : FnScope ["_law_script", "_law_k"] ["_law_script", "_law_k"] (defScope sCell) := ⟨rfl, rfl, rfl, by decide +kernel, rfl, by decide +kernel, by decide +kernel⟩
theorem scLaw : FnScope NLaw ["_law_script"] (defScope sLaw) := ⟨rfl, rfl, rfl, by decide +kernel, rfl, by decide +kernel, by decide +kernel⟩
def spCell (K : PySem.W.Frag) : Sp := fun vs H Q _ => ∃ (a : Addr) (ns : List Int), vs = [.ref a, .int 0] ∧ SqL K H a (ns.map V.int) ∧ ∀ c : Int, Q (.int c) H
def spLaw (K : PySem.W.Frag) (Pt : Addr) : Sp := fun vs H Q _ => ∃ (a : Addr) (ns : List Int), vs = [.ref a] ∧ SqL K H a (ns.map V.int) ∧ ns.length ≤ 63 ∧ Tabs [(Pt, qL)] H ∧ ∀ H', Q (.bl true) H'
theorem cut_mem {xs : List V} {lo hi : Option Int} {x : V} (h : x ∈ cutV xs lo hi) : x ∈ xs := by
  unfold cutV at h
  exact List.mem_of_mem_drop (List.mem_of_mem_take h)
section
variable {P : Program} {w : World} {K : PySem.W.Frag} {mg : Str → Option Value} {base : Heap}
theorem ok_cell {f : Addr} {fd : FuncData} (F : Fun K "_law_cell_at" "_law_cell_at" sCell f fd) (nl : mg "len" = none) : FnOk P w K mg base CX0 1 f fd ["_law_script", "_law_k"] (spCell K) := by
  refine F.ok scCell (fun vs H Q E h => ?_) (fun cdv A outer s H vs Q E hr h => ?_)
  · obtain ⟨a, ns, rfl, _⟩ := h
    rfl
  · obtain ⟨a, ns, rfl, hS, k⟩ := h
    refine ⟨_, pss_one (ps_ret (pe_ifExp (pt_cmpR op_lt (pv 1) (pe_callB call_len_seq (by rfl) nl PySem.boot_len (pa_cons (pv 0) pa_nil)) (nomark _)) (pe_ix ix_list (pv 0) (pv 1) (fun _ _ => rfl)) pe_int)), ?_⟩
    refine ⟨_, rfl, _, rfl, a, _, rfl, .inl hS, _, _, rfl, rfl, _, rfl, ite2 (fun e => ?_) (fun e => ?_)⟩
    · cases ns with
      | nil => exact absurd e (by simp)
      | cons c r => exact ⟨_, rfl, _, rfl, a, _, 0, _, rfl, rfl, hS, atI_nat (j := 0) (xs := V.int c :: r.map V.int) rfl, k c⟩
    · exact k 0
theorem ok_law {f fC fW fR Pt : Addr} {fd fdC fdW fdR : FuncData} (F : Fun K "law" "law" sLaw f fd) (nr : mg "range" = none)
    (DC : Def P w K mg base 1 "_law_cell_at" fC fdC ["_law_script", "_law_k"] (spCell K)) (DW : Def P w K mg base 1 "_law_well" fW fdW ["_law_cell"] Pf.spWell) (DR : Def P w K mg base 9 "_law_right" fR fdR ["_law_well_here"] (spRight Pt)) : FnOk P w K mg base CX0 10 f fd ["_law_script"] (spLaw K Pt) := by
  refine F.ok scLaw (fun vs H Q E h => ?_) (fun cdv A outer s H vs Q E hr h => ?_)
  · obtain ⟨a, ns, rfl, _⟩ := h
    rfl
  · obtain ⟨a, ns, rfl, hS, h63, tb, k⟩ := h
    refine ⟨_, pss_cons (ps_for PassesOwn.never rfl (pi_list (pe_op op_cat (pe_lst (pa_cons (pe_call DC.ok (hr.mono (by decide)) rfl DC.g DC.kp DC.b .nil pass0 (pa_cons (pv 0) (pa_cons pe_int pa_nil))) pa_nil)) (pe_slice sl_list (pv 0) (po_some pe_int) (po_some pe_int)))) (pg_name (i := 1) scLaw.nd rfl (Or.inl rfl))
        (pss_cons (ps_set (i := 2) scLaw.nd rfl (Or.inl rfl) (pe_call DW.ok (hr.mono (by decide)) rfl DW.g DW.kp DW.b .nil pass0 (pa_cons (pv 1) pa_nil)))
        (pss_one (ps_for PassesOwn.never rfl (pi_range1 rfl nr (pa_cons pe_int pa_nil)) (pg_name (i := 3) scLaw.nd rfl (Or.inl rfl))
          (pss_one (ps_if (pt_not (pt_val (pe_call DR.ok hr rfl DR.g DR.kp DR.b .nil pass0 (pa_cons (pv 2) pa_nil)))) (pss_one (ps_ret pe_bl)) pss_nil))))))
      (pss_one (ps_ret pe_bl)), ?_⟩
    have hlen : (cutV (ns.map V.int) (some 1) (some 3)).length ≤ 63 := by
      have z := cutV_length (ns.map V.int) (some 1) (some 3)
      rw [List.length_map] at z
      omega
    refine ⟨_, rfl, a, ns, rfl, hS, fun c0 => ⟨by show 1 ≤ sizeLine; decide, fun p1 hp1 => ?_⟩⟩
    have k1 : Same H (upd H p1 (.lst [V.int c0])) := sm_upd hp1
    refine ⟨_, rfl, _, rfl, _, rfl, a, _, rfl, k1.seq hS, fun p2 hp2 => ?_⟩
    have k2 : Same (upd H p1 (.lst [V.int c0])) (upd (upd H p1 (.lst [V.int c0])) p2 (.lst (cutV (ns.map V.int) (some 1) (some 3)))) := sm_upd hp2
    refine ⟨p1, p2, _, _, rfl, rfl, k2 _ _ upd_same, upd_same, ?_, fun p3 hp3 => ?_⟩
    · have z2 : 1 + (cutV (ns.map V.int) (some 1) (some 3)).length ≤ 64 := by omega
      exact Nat.le_trans z2 (by decide)
    have k3 : Same H (upd (upd (upd H p1 (.lst [V.int c0])) p2 (.lst (cutV (ns.map V.int) (some 1) (some 3)))) p3 (.lst ([V.int c0] ++ cutV (ns.map V.int) (some 1) (some 3)))) := Same.upd (Same.trans k1 k2) hp3
    have g3 : (upd (upd (upd H p1 (.lst [V.int c0])) p2 (.lst (cutV (ns.map V.int) (some 1) (some 3)))) p3 (.lst ([V.int c0] ++ cutV (ns.map V.int) (some 1) (some 3)))) p3 = some (.lst ([V.int c0] ++ cutV (ns.map V.int) (some 1) (some 3))) := upd_same
    generalize (upd (upd (upd H p1 (.lst [V.int c0])) p2 (.lst (cutV (ns.map V.int) (some 1) (some 3)))) p3 (.lst ([V.int c0] ++ cutV (ns.map V.int) (some 1) (some 3)))) = H1 at k3 g3 ⊢
    have allI : ∀ x ∈ ([V.int c0] ++ cutV (ns.map V.int) (some 1) (some 3)), ∃ c : Int, x = .int c := fun x hx => by
      rcases List.mem_append.mp hx with m | m
      · exact ⟨c0, List.mem_singleton.mp m⟩
      · obtain ⟨c, _, e⟩ := List.mem_map.mp (cut_mem m)
        exact ⟨c, e.symm⟩
    refine ⟨p3, rfl, ⟨_, SqL.of g3⟩, for_list (K := K) (a := p3) (xs := [V.int c0] ++ cutV (ns.map V.int) (some 1) (some 3)) (fun i σ H' => (∃ v1 v2 v3 : Option V, σ = [some (.ref a), v1, v2, v3]) ∧ Tabs [(Pt, qL)] H' ∧ Fr [] H1 H')
      ⟨⟨_, _, _, rfl⟩, tb.ext k3, Fr.refl _ _⟩ (fun i σ H' _ hv => SqL.of (hv.2.2 _ _ g3 (by simp) Nt.lst.tbl)) ?_ ?_⟩
    rotate_left
    · rintro σ H' ⟨⟨v1, v2, v3, rfl⟩, _⟩
      exact k _
    rintro i x σ H2 hx ⟨⟨v1, v2, v3, rfl⟩, tb2, f2⟩
    obtain ⟨c, rfl⟩ := allI x (List.mem_of_getElem? hx)
    refine ⟨_, rfl, c, rfl, fun pw o hpw w0 => ?_⟩
    have k4 : Same H2 (upd H2 pw o) := sm_upd hpw
    refine ⟨4, rfl, by decide, by decide, for_range (lo := 0) (n := 4) (fun i σ H' => (∃ v3 : Option V, σ = [some (.ref a), some (.int c), some (.ref pw), v3]) ∧ Tabs [(Pt, qL)] H' ∧ Fr [] H2 H' ∧ ∃ z, Pf.WellAt H' pw z ∧ 0 ≤ z ∧ z ≤ 200 * (i : Int))
      ⟨⟨_, rfl⟩, tb2.ext k4, .same k4, 0, w0, by omega, by omega⟩ ?_ ?_⟩
    rotate_left
    · rintro σ H' ⟨⟨v3, rfl⟩, t, f, _⟩
      exact ⟨⟨_, _, _, rfl⟩, t, f2.trans f⟩
    rintro i2 σ H3 hi ⟨⟨v3, rfl⟩, t3, f3, z, wz, hz0, hz1⟩
    refine ⟨_, rfl, pw, z, rfl, wz, hz0, by omega, t3, fun z' H4 z2 z3 w4 t4 f4 => ⟨_, rfl, iteN rfl ?_⟩⟩
    refine ⟨⟨_, rfl⟩, t4, fun b u e nm nt => f4 b u (f3 b u e nm nt) ?_ nt, z', w4, by omega, by push_cast; omega⟩
    simp only [List.mem_singleton]
    exact ne_of_none e hpw
end
end St

set_option Elab.async false
set_option linter.all false
set_option maxRecDepth 100000
set_option maxHeartbeats 4000000
namespace Pf
open PySem PySem.Spec PyProof.Rows L2 Sup NdefX
abbrev P0 : Program := PySem.Challenge.rw_planfirst_k25_whole_stores_and_locks.prog
/-- the facts of one class, as the head finds them -/
structure ClsF (K : PySem.W.Frag) (x qual : Str) (B f0 C fI cc cda : Addr) (fs : List (Str × Pos)) (p1 : Pos) (body : List Stmt) : Prop where
  aC : PySem.W.nsIn K mainGlobals x = some (some (.ref C))
  xC : ∃ nm q N bs sn sub ab col dd k0 k1 k2 k3 k5, K.lookup C = some (excClassObj nm q C N bs [.ref B, .type "ValueError", .type "Exception", .type "BaseException", .type "object"] true sn sub ab col dd k0 k1 k2 k3 k5 "ValueError.__new__")
  sa : PySem.W.findIn K (.ref C) "__setattr__" = some (some (.builtin "object.__setattr__"))
  ga : PySem.W.findIn K (.ref C) "__getattribute__" = some (some (.builtin "BaseException.__getattribute__"))
  gg : PySem.W.findIn K (.ref C) "__getattr__" = some none
  exC : PySem.W.subIn K (.ref C) (.type "BaseException") = some true
  tyC : PySem.W.typeIn K (.ref C) = some (.type "type")
  kC : PySem.W.keepIn K (.ref C) = true
  hdC : PySem.W.hasDictIn K C = true
  cl : PySem.W.findIn K (.ref C) "__class__" = some (some (.builtin "object.__class__"))
  st : PySem.W.findIn K (.ref C) "__str__" = some (some (.builtin "BaseException.__str__"))
  iC : PySem.W.findIn K (.ref C) "__init__" = some (some (.ref fI))
  tI : PySem.W.typeIn K (.ref fI) = some (.type "function")
  lk : ∃ oc od doc pm ctv osl, K.lookup fI = some ⟨oc, od, .func ((nfI qual fs p1 body cc cda).fd doc pm ctv), osl⟩
  cd : PySem.W.codeIn K (.ref cda) qual = true
  cell : ∃ a b c, K.lookup cc = some ⟨a, b, .cell (some (.ref C)), c⟩
  code : ∃ a b vs sl file tf, K.lookup cda = some ⟨a, b, .fields vs, sl⟩ ∧ vs[2]? = some (.str file tf) ∧ ((P0.main.file : Str) == file) = true
  no : ∀ f ∈ ("told" : Str) :: fs.map (·.1), PySem.W.findIn K (.ref C) f = some none
  sup : PySem.W.ks_superIn K C C "__init__" = some (some (.ref f0))
section
variable {K : PySem.W.Frag} {x qual : Str} {B f0 C fI cc cda : Addr} {fs : List (Str × Pos)} {p1 : Pos} {body : List Stmt}
theorem ClsF.cdOf (F : ClsF K x qual B f0 C fI cc cda fs p1 body) : ∃ cd : ClassData, PySem.W.clsIn K C = some cd ∧ cd.mro = [.ref C, .ref B, .type "ValueError", .type "Exception", .type "BaseException", .type "object"] := by
  obtain ⟨nm, q, N, bs, sn, sub, ab, col, dd, k0, k1, k2, k3, k5, h⟩ := F.xC
  exact ⟨{ name := nm, bases := bs, mro := [.ref C, .ref B, .type "ValueError", .type "Exception", .type "BaseException", .type "object"], ns := N, qualname := q, hasDict := true, slotNames := sn, subclasses := sub, abstract := ab, collection := col, hasDel := false }, by unfold PySem.W.clsIn; rw [h], rfl⟩
theorem ClsF.oex (F : ClsF K x qual B f0 C fI cc cda fs p1 body) : OexC K C := by
  obtain ⟨nm, q, N, bs, sn, sub, ab, col, dd, k0, k1, k2, k3, k5, h⟩ := F.xC
  exact ⟨⟨nm, q, N, bs, _, sn, sub, ab, col, dd, k0, k1, k2, k3, k5, h, rfl⟩, F.sa, F.exC, F.tyC, F.kC⟩
theorem ClsF.mro (F : ClsF K x qual B f0 C fI cc cda fs p1 body) (b : Value) (r : Bool) (h : ([.ref C, .ref B, .type "ValueError", .type "Exception", .type "BaseException", .type "object"] : List Value).contains b = r) : PySem.W.mroIn K C b = some r := by
  obtain ⟨cd, h1, h2⟩ := F.cdOf
  unfold PySem.W.mroIn
  rw [h1, Option.bind_some, h2, h]
  rfl
theorem ClsF.ec (F : ClsF K x qual B f0 C fI cc cda fs p1 body) : ErrC K C := ⟨F.ga, F.gg, F.exC, F.hdC, F.cl, F.mro _ _ (by simp), F.st⟩
theorem ClsF.supT (F : ClsF K x qual B f0 C fI cc cda fs p1 body) (t0 : PySem.W.typeIn K (.ref f0) = some (.type "function")) (n0 : PySem.W.fnIn K f0 = true) (tp : PySem.W.nsIn K cStatics "thirdparty.any" = some none) : SupT P0 K C fI f0 cc cda :=
  ⟨F.oex, F.cell, F.code, F.sup, t0, n0, tp, by decide +kernel⟩
theorem ClsF.iniT (F : ClsF K x qual B f0 C fI cc cda fs p1 body) (t0 : PySem.W.typeIn K (.ref f0) = some (.type "function")) (n0 : PySem.W.fnIn K f0 = true) (tp : PySem.W.nsIn K cStatics "thirdparty.any" = some none) : InitT P0 K C fI f0 cc cda qual fs p1 body :=
  ⟨F.supT t0 n0 tp, F.no, F.lk, F.cd⟩
/-- isinstance of an instance of C against another such class, its base, ValueError -/
theorem ClsF.kitC (F : ClsF K x qual B f0 C fI cc cda fs p1 body) {y qual' : Str} {D fI' cc' cda' : Addr} {fs' : List (Str × Pos)} {p1' : Pos} {body' : List Stmt} (G : ClsF K y qual' B f0 D fI' cc' cda' fs' p1' body') (ne : C ≠ D) (nb : B ≠ D) : PySem.W.kitOne K (.ref C) (.ref D) = some false := by
  obtain ⟨cd, h1, h2⟩ := G.cdOf
  have e1 : ((PySem.W.clsIn K D).isSome && PySem.W.typeIn K (.ref D) == some (.type "type")) = true := by rw [h1, G.tyC]; rfl
  have e2 : PySem.W.subIn K (.ref C) (.ref D) = some false := F.mro _ _ (by simp [Ne.symm ne, Ne.symm nb])
  have e3 : ((Value.ref C) == Value.ref D) = false := by simp [ne]
  unfold PySem.W.kitOne PySem.W.kitCls
  rw [e3]
  simp only [Bool.false_eq_true, if_false]
  rw [if_pos e1]
  exact e2
theorem ClsF.kitB (F : ClsF K x qual B f0 C fI cc cda fs p1 body) (cb : (PySem.W.clsIn K B).isSome = true) (tb : PySem.W.typeIn K (.ref B) = some (.type "type")) : PySem.W.kitOne K (.ref C) (.ref B) = some true := by
  have e1 : ((PySem.W.clsIn K B).isSome && PySem.W.typeIn K (.ref B) == some (.type "type")) = true := by rw [cb, tb]; rfl
  have e2 : PySem.W.subIn K (.ref C) (.ref B) = some true := F.mro _ _ (by simp)
  unfold PySem.W.kitOne PySem.W.kitCls
  by_cases h : ((Value.ref C) == Value.ref B) = true
  · rw [if_pos h]
  · rw [if_neg h]
    simp only
    rw [if_pos e1]
    exact e2
theorem ClsF.kitV (F : ClsF K x qual B f0 C fI cc cda fs p1 body) : PySem.W.kitOne K (.ref C) (.type "ValueError") = some true := by
  have e2 : PySem.W.subIn K (.ref C) (.type "ValueError") = some true := F.mro _ _ (by simp)
  have e1 : PySem.W.kitMeta "ValueError" = true := by decide +kernel
  show (if ((Value.ref C) == Value.type "ValueError") = true then some true else if PySem.W.kitMeta "ValueError" = true then PySem.W.subIn K (.ref C) (.type "ValueError") else none) = some true
  rw [if_neg (by intro z; cases z), if_pos e1]
  exact e2
end
end Pf

set_option Elab.async false
set_option linter.all false
set_option maxRecDepth 100000
set_option maxHeartbeats 8000000
namespace St
open PySem PySem.Spec PyProof.Rows L2 Dq Vl ClX LamX Sup NdefX Pf
theorem kitT_of {K : PySem.W.Frag} {C : Addr} {T : String} (h : PySem.W.mroIn K C (.type T) = some false) (e : PySem.W.kitMeta T = true) : PySem.W.kitOne K (.ref C) (.type T) = some false := by
  show (if ((Value.ref C) == Value.type T) = true then some true else if PySem.W.kitMeta T = true then PySem.W.subIn K (.ref C) (.type T) else none) = some false
  rw [if_neg (by intro z; cases z), if_pos e]
  exact h
theorem exm_is {K : PySem.W.Frag} {C D : Addr} {r : Bool} (b : PySem.W.subIn K (.ref D) (.type "BaseException") = some true) (c : (PySem.W.clsIn K D).isSome = true) (t : PySem.W.typeIn K (.ref D) = some (.type "type")) (h : PySem.W.subIn K (.ref C) (.ref D) = some r) : PySem.W.exmOne K (.ref C) (.ref D) = some r := by
  have e1 : ((PySem.W.clsIn K D).isSome && PySem.W.typeIn K (.ref D) == some (.type "type")) = true := by rw [c, t]; rfl
  unfold PySem.W.exmOne PySem.W.kitCls
  rw [if_pos (by rw [b]; rfl)]
  simp only
  rw [if_pos e1]
  exact h
/-- the walk, where the def called x makes lambdas -/
theorem walk_tab {l : PySem.W.OpenLaw} {n k : Nat} {q : Program} {loose : List Str} {XP : (Str → Option Value) → Heap → Prop} {YP : World → Heap → Prop} {d : DefRec} {K : Params → PySem.W.Frag} {CX : World → CXT} {x : Str} (y : Str)
    (hn : l.most = some n) (hn2 : n ≤ sizeLine) (hdf : d.params.defaults = []) (hr : Room k callerA) (hrec : ((recsOf q).find? (fun e => e.name == y)).isSome = true) (hY : ∀ (w : World) (h : Heap), YP w h → (K w.params).In h)
    (F : ∀ (w : World) (mg : Str → Option Value) (fa : Addr) (h : Heap), (K w.params).In h → h.Ns mainGlobals mg → mg d.name = some (.ref fa) → (∀ c P, PySem.W.tabIn (K w.params) y = some (c, P) → PySem.W.CodeHd h c P ∧ h.get? P = some { cls := .none, data := .fields #[] }) → LawAtS l w (K w.params) (CX w) k n x mg fa h)
    (hCX : ∀ (w : World) (H : Hp) (s : Shared) (e : Value) (s' : Shared), CX w [] H s (fun _ _ _ => False) e s' → False) :
    PySem.W.WalkO q loose XP YP l.row.toRowW d [] (fun f vs => PySem.call f vs) := by
  refine Att.attach_callB hn hdf fun w s₀ s₁ mg mb fa o pm cd doc a vs ns G Y ho hd hcd hmg hobj hints hlen hbits hg => ?_
  have KX := hY w _ Y
  obtain ⟨dR, hR⟩ := Option.isSome_iff_exists.mp hrec
  obtain ⟨fd, cs, sp, hT, nT, C, hb, hsp, hF⟩ := F w mg fa _ KX G.T.g hmg fun c P e => PySem.W.tab_of G.T KX hR e
  exact law_callTs KX G.T.g G.T.b G.T.builtins G.T.nolimit hg hT nT C G.T.bmain hobj hints (Nat.le_trans hlen hn2) hr hF hb (fun H hH hS => hsp H a ns hlen hbits hH hS) fun H e s' => hCX w H s₁ e s'
theorem all_mk {w : World} {K : PySem.W.Frag} {h : Heap} {mg : Str → Option Value} {fa CT CS B f0 cR PR CL fIL ccL cdaL CZ fIZ ccZ cdaZ fEq fPod fInt fFrs fCel fWel fDrw fOne fTld fDue fRgt fLaw fSI fSP fSE fOI fKp fLk fUn fWr fRf fNx : Addr} (X : K.In h) (G : h.Ns mainGlobals mg) (hfa : mg "law" = some (.ref fa))
    {odB anB : Option Addr} {oslB : Array (Option Value)} {ocB kVB docB pmB cdvB ctB : Value} {oR : Value} {dR : Option Addr} {vsR : Array Value} {slR : Array (Option Value)}
    {odEq anEq odPod anPod odInt anInt odFrs anFrs odCel anCel odWel anWel odDrw anDrw odOne anOne odTld anTld odDue anDue odRgt anRgt odLaw anLaw odSI anSI odSP anSP odSE anSE odOI anOI odKp anKp odLk anLk odUn anUn odWr anWr odRf anRf odNx anNx : Option Addr} {slEq slPod slInt slFrs slCel slWel slDrw slOne slTld slDue slRgt slLaw slSI slSP slSE slOI slKp slLk slUn slWr slRf slNx : Array (Option Value)} {ocEq kVEq dcEq pmEq cdEq ctEq ocPod kVPod dcPod pmPod cdPod ctPod ocInt kVInt dcInt pmInt cdInt ctInt ocFrs kVFrs dcFrs pmFrs cdFrs ctFrs ocCel kVCel dcCel pmCel cdCel ctCel ocWel kVWel dcWel pmWel cdWel ctWel ocDrw kVDrw dcDrw pmDrw cdDrw ctDrw ocOne kVOne dcOne pmOne cdOne ctOne ocTld kVTld dcTld pmTld cdTld ctTld ocDue kVDue dcDue pmDue cdDue ctDue ocRgt kVRgt dcRgt pmRgt ctRgt ocLaw kVLaw dcLaw pmLaw cdLaw ctLaw ocSI kVSI dcSI pmSI cdSI ctSI ocSP kVSP dcSP pmSP cdSP ctSP ocSE kVSE dcSE pmSE cdSE ctSE ocOI kVOI dcOI pmOI cdOI ctOI ocKp kVKp dcKp pmKp cdKp ctKp ocLk kVLk dcLk pmLk cdLk ctLk ocUn kVUn dcUn pmUn cdUn ctUn ocWr kVWr dcWr pmWr cdWr ctWr ocRf kVRf dcRf pmRf cdRf ctRf ocNx kVNx dcNx pmNx cdNx ctNx : Value}
    (aB : PySem.W.nsIn K mainGlobals "PlanError" = some (some (.ref B)))
    (iB : PySem.W.findIn K (.ref B) "__init__" = some (some (.ref f0)))
    (lB : K.lookup f0 = some ⟨ocB, odB, .func (PySem.W.fnOf "__init__" "PlanError.__init__" (bA ⟨41, 17, 41, 21⟩ ⟨41, 24, 41, 28⟩) (bB ⟨42, 8, 42, 12⟩ ⟨42, 8, 42, 17⟩ ⟨42, 20, 42, 24⟩ ⟨42, 8, 42, 24⟩) bS .none kVB docB pmB anB cdvB ctB), oslB⟩)
    (cB : PySem.W.codeIn K cdvB "PlanError.__init__" = true)
    (tB0 : PySem.W.typeIn K (.ref f0) = some (.type "function"))
    (nB0 : PySem.W.fnIn K f0 = true)
    (tp : PySem.W.nsIn K cStatics "thirdparty.any" = some none)
    (aEq : PySem.W.nsIn K mainGlobals "equal" = some (some (.ref fEq)))
    (lEq : K.lookup fEq = some ⟨ocEq, odEq, .func (PySem.W.fnOf "equal" "equal" (defArgs Dq.sEqual) (defBody Dq.sEqual) (defScope Dq.sEqual) .none kVEq dcEq pmEq anEq cdEq ctEq), slEq⟩)
    (cEq : PySem.W.codeIn K cdEq "equal" = true)
    (kEq : PySem.W.keepIn K (.ref fEq) = true)
    (aPod : PySem.W.nsIn K mainGlobals "_pairs_of_dicts" = some (some (.ref fPod)))
    (lPod : K.lookup fPod = some ⟨ocPod, odPod, .func (PySem.W.fnOf "_pairs_of_dicts" "_pairs_of_dicts" (defArgs Dq.sPod) (defBody Dq.sPod) (defScope Dq.sPod) .none kVPod dcPod pmPod anPod cdPod ctPod), slPod⟩)
    (cPod : PySem.W.codeIn K cdPod "_pairs_of_dicts" = true)
    (kPod : PySem.W.keepIn K (.ref fPod) = true)
    (aInt : PySem.W.nsIn K mainGlobals "is_integer" = some (some (.ref fInt)))
    (lInt : K.lookup fInt = some ⟨ocInt, odInt, .func (PySem.W.fnOf "is_integer" "is_integer" (defArgs sInt) (defBody sInt) (defScope sInt) .none kVInt dcInt pmInt anInt cdInt ctInt), slInt⟩)
    (cInt : PySem.W.codeIn K cdInt "is_integer" = true)
    (kInt : PySem.W.keepIn K (.ref fInt) = true)
    (aFrs : PySem.W.nsIn K mainGlobals "fresh" = some (some (.ref fFrs)))
    (lFrs : K.lookup fFrs = some ⟨ocFrs, odFrs, .func (PySem.W.fnOf "fresh" "fresh" (defArgs sFresh) (defBody sFresh) (defScope sFresh) .none kVFrs dcFrs pmFrs anFrs cdFrs ctFrs), slFrs⟩)
    (cFrs : PySem.W.codeIn K cdFrs "fresh" = true)
    (kFrs : PySem.W.keepIn K (.ref fFrs) = true)
    (aCel : PySem.W.nsIn K mainGlobals "_law_cell_at" = some (some (.ref fCel)))
    (lCel : K.lookup fCel = some ⟨ocCel, odCel, .func (PySem.W.fnOf "_law_cell_at" "_law_cell_at" (defArgs sCell) (defBody sCell) (defScope sCell) .none kVCel dcCel pmCel anCel cdCel ctCel), slCel⟩)
    (cCel : PySem.W.codeIn K cdCel "_law_cell_at" = true)
    (kCel : PySem.W.keepIn K (.ref fCel) = true)
    (aWel : PySem.W.nsIn K mainGlobals "_law_well" = some (some (.ref fWel)))
    (lWel : K.lookup fWel = some ⟨ocWel, odWel, .func (PySem.W.fnOf "_law_well" "_law_well" (defArgs Pf.sWell) (defBody Pf.sWell) (defScope Pf.sWell) .none kVWel dcWel pmWel anWel cdWel ctWel), slWel⟩)
    (cWel : PySem.W.codeIn K cdWel "_law_well" = true)
    (kWel : PySem.W.keepIn K (.ref fWel) = true)
    (aDrw : PySem.W.nsIn K mainGlobals "_law_draw" = some (some (.ref fDrw)))
    (lDrw : K.lookup fDrw = some ⟨ocDrw, odDrw, .func (PySem.W.fnOf "_law_draw" "_law_draw" (defArgs Pf.sDraw) (defBody Pf.sDraw) (defScope Pf.sDraw) .none kVDrw dcDrw pmDrw anDrw cdDrw ctDrw), slDrw⟩)
    (cDrw : PySem.W.codeIn K cdDrw "_law_draw" = true)
    (kDrw : PySem.W.keepIn K (.ref fDrw) = true)
    (aOne : PySem.W.nsIn K mainGlobals "_law_one" = some (some (.ref fOne)))
    (lOne : K.lookup fOne = some ⟨ocOne, odOne, .func (PySem.W.fnOf "_law_one" "_law_one" (defArgs Pf.sOne) (defBody Pf.sOne) (defScope Pf.sOne) .none kVOne dcOne pmOne anOne cdOne ctOne), slOne⟩)
    (cOne : PySem.W.codeIn K cdOne "_law_one" = true)
    (kOne : PySem.W.keepIn K (.ref fOne) = true)
    (aTld : PySem.W.nsIn K mainGlobals "_law_told" = some (some (.ref fTld)))
    (lTld : K.lookup fTld = some ⟨ocTld, odTld, .func (PySem.W.fnOf "_law_told" "_law_told" (defArgs sTold) (defBody sTold) (defScope sTold) .none kVTld dcTld pmTld anTld cdTld ctTld), slTld⟩)
    (cTld : PySem.W.codeIn K cdTld "_law_told" = true)
    (kTld : PySem.W.keepIn K (.ref fTld) = true)
    (aDue : PySem.W.nsIn K mainGlobals "_law_due" = some (some (.ref fDue)))
    (lDue : K.lookup fDue = some ⟨ocDue, odDue, .func (PySem.W.fnOf "_law_due" "_law_due" (defArgs sDue) (defBody sDue) (defScope sDue) .none kVDue dcDue pmDue anDue cdDue ctDue), slDue⟩)
    (cDue : PySem.W.codeIn K cdDue "_law_due" = true)
    (kDue : PySem.W.keepIn K (.ref fDue) = true)
    (aRgt : PySem.W.nsIn K mainGlobals "_law_right" = some (some (.ref fRgt)))
    (lRgt : K.lookup fRgt = some ⟨ocRgt, odRgt, .func (PySem.W.fnOf "_law_right" "_law_right" (defArgs sRight) (defBody sRight) (defScope sRight) .none kVRgt dcRgt pmRgt anRgt (.ref cR) ctRgt), slRgt⟩)
    (cRgt : PySem.W.codeIn K (.ref cR) "_law_right" = true)
    (kRgt : PySem.W.keepIn K (.ref fRgt) = true)
    (aLaw : PySem.W.nsIn K mainGlobals "law" = some (some (.ref fLaw)))
    (lLaw : K.lookup fLaw = some ⟨ocLaw, odLaw, .func (PySem.W.fnOf "law" "law" (defArgs sLaw) (defBody sLaw) (defScope sLaw) .none kVLaw dcLaw pmLaw anLaw cdLaw ctLaw), slLaw⟩)
    (cLaw : PySem.W.codeIn K cdLaw "law" = true)
    (kLaw : PySem.W.keepIn K (.ref fLaw) = true)
    (coR : K.lookup cR = some ⟨oR, dR, .fields vsR, slR⟩)
    (v11 : vsR[11]? = some (.ref PR))
    (nP : K.lookup PR = none)
    (z_isinstance : PySem.W.nsIn K mainGlobals "isinstance" = some none)
    (z_len : PySem.W.nsIn K mainGlobals "len" = some none)
    (z_int : PySem.W.nsIn K mainGlobals "int" = some none)
    (z_bool : PySem.W.nsIn K mainGlobals "bool" = some none)
    (z_str : PySem.W.nsIn K mainGlobals "str" = some none)
    (z_dict : PySem.W.nsIn K mainGlobals "dict" = some none)
    (z_tuple : PySem.W.nsIn K mainGlobals "tuple" = some none)
    (z_list : PySem.W.nsIn K mainGlobals "list" = some none)
    (z_range : PySem.W.nsIn K mainGlobals "range" = some none)
    (z_zip : PySem.W.nsIn K mainGlobals "zip" = some none)
    (z_type : PySem.W.nsIn K mainGlobals "type" = some none)
    (z_super : PySem.W.nsIn K mainGlobals "super" = some none)
    (aCT : PySem.W.nsIn K mainGlobals "State" = some (some (.ref CT)))
    (pgCT : PySem.W.plainGet K CT Str.empty = true)
    (hdCT : PySem.W.hasDictIn K CT = true)
    (poCT : PySem.W.plainOver K CT = true)
    (saCT : PySem.W.findIn K (.ref CT) "__setattr__" = some (some (.builtin "object.__setattr__")))
    (mkCT : PySem.W.makesIn K CT = true)
    (kcCT : PySem.W.keepIn K (.ref CT) = true)
    (aCS : PySem.W.nsIn K mainGlobals "Store" = some (some (.ref CS)))
    (pgCS : PySem.W.plainGet K CS Str.empty = true)
    (hdCS : PySem.W.hasDictIn K CS = true)
    (poCS : PySem.W.plainOver K CS = true)
    (saCS : PySem.W.findIn K (.ref CS) "__setattr__" = some (some (.builtin "object.__setattr__")))
    (mkCS : PySem.W.makesIn K CS = true)
    (kcCS : PySem.W.keepIn K (.ref CS) = true)
    (ha : PySem.W.findIn K (.ref CT) "__class__" = some (some (.builtin "object.__class__")))
    (hn : PySem.W.specialIn K (.builtin "object.__class__") "__get__" = some (some (.builtin "getset_descriptor.__get__")))
    (htk : PySem.W.takesIn K (.builtin "object.__class__") = some true)
    (hm : PySem.W.mroIn K CT (.type "object") = some true)
    (nT_objects : PySem.W.findIn K (.ref CT) "objects" = some none)
    (nT_deposed : PySem.W.findIn K (.ref CT) "deposed" = some none)
    (nT_outputs : PySem.W.findIn K (.ref CT) "outputs" = some none)
    (nT_serial : PySem.W.findIn K (.ref CT) "serial" = some none)
    (nS_state : PySem.W.findIn K (.ref CS) "_state" = some none)
    (nS_holder : PySem.W.findIn K (.ref CS) "_holder" = some none)
    (mT_list : PySem.W.mroIn K CT (.type "list") = some false)
    (mT_dict : PySem.W.mroIn K CT (.type "dict") = some false)
    (mT_tuple : PySem.W.mroIn K CT (.type "tuple") = some false)
    (mT_str : PySem.W.mroIn K CT (.type "str") = some false)
    (aSI : PySem.W.findIn K (.ref CT) "__init__" = some (some (.ref fSI)))
    (iSI : PySem.W.isFn K (.ref fSI) = true)
    (lSI : K.lookup fSI = some ⟨ocSI, odSI, .func (PySem.W.fnOf "__init__" "State.__init__" (defArgs sSInit) (defBody sSInit) (defScope sSInit) .none kVSI dcSI pmSI anSI cdSI ctSI), slSI⟩)
    (cSI : PySem.W.codeIn K cdSI "State.__init__" = true)
    (kSI : PySem.W.keepIn K (.ref fSI) = true)
    (aSP : PySem.W.findIn K (.ref CT) "parts" = some (some (.ref fSP)))
    (iSP : PySem.W.isFn K (.ref fSP) = true)
    (lSP : K.lookup fSP = some ⟨ocSP, odSP, .func (PySem.W.fnOf "parts" "State.parts" (defArgs sParts) (defBody sParts) (defScope sParts) .none kVSP dcSP pmSP anSP cdSP ctSP), slSP⟩)
    (cSP : PySem.W.codeIn K cdSP "State.parts" = true)
    (kSP : PySem.W.keepIn K (.ref fSP) = true)
    (aSE : PySem.W.findIn K (.ref CT) "__eq__" = some (some (.ref fSE)))
    (iSE : PySem.W.isFn K (.ref fSE) = true)
    (lSE : K.lookup fSE = some ⟨ocSE, odSE, .func (PySem.W.fnOf "__eq__" "Valued.__eq__" (defArgs sVEq) (defBody sVEq) (defScope sVEq) .none kVSE dcSE pmSE anSE cdSE ctSE), slSE⟩)
    (cSE : PySem.W.codeIn K cdSE "Valued.__eq__" = true)
    (kSE : PySem.W.keepIn K (.ref fSE) = true)
    (aOI : PySem.W.findIn K (.ref CS) "__init__" = some (some (.ref fOI)))
    (iOI : PySem.W.isFn K (.ref fOI) = true)
    (lOI : K.lookup fOI = some ⟨ocOI, odOI, .func (PySem.W.fnOf "__init__" "Store.__init__" (defArgs sOInit) (defBody sOInit) (defScope sOInit) .none kVOI dcOI pmOI anOI cdOI ctOI), slOI⟩)
    (cOI : PySem.W.codeIn K cdOI "Store.__init__" = true)
    (kOI : PySem.W.keepIn K (.ref fOI) = true)
    (aKp : PySem.W.findIn K (.ref CS) "kept" = some (some (.ref fKp)))
    (iKp : PySem.W.isFn K (.ref fKp) = true)
    (lKp : K.lookup fKp = some ⟨ocKp, odKp, .func (PySem.W.fnOf "kept" "Store.kept" (defArgs sKept) (defBody sKept) (defScope sKept) .none kVKp dcKp pmKp anKp cdKp ctKp), slKp⟩)
    (cKp : PySem.W.codeIn K cdKp "Store.kept" = true)
    (kKp : PySem.W.keepIn K (.ref fKp) = true)
    (aLk : PySem.W.findIn K (.ref CS) "lock" = some (some (.ref fLk)))
    (iLk : PySem.W.isFn K (.ref fLk) = true)
    (lLk : K.lookup fLk = some ⟨ocLk, odLk, .func (PySem.W.fnOf "lock" "Store.lock" (defArgs sLock) (defBody sLock) (defScope sLock) .none kVLk dcLk pmLk anLk cdLk ctLk), slLk⟩)
    (cLk : PySem.W.codeIn K cdLk "Store.lock" = true)
    (kLk : PySem.W.keepIn K (.ref fLk) = true)
    (aUn : PySem.W.findIn K (.ref CS) "unlock" = some (some (.ref fUn)))
    (iUn : PySem.W.isFn K (.ref fUn) = true)
    (lUn : K.lookup fUn = some ⟨ocUn, odUn, .func (PySem.W.fnOf "unlock" "Store.unlock" (defArgs sUnlock) (defBody sUnlock) (defScope sUnlock) .none kVUn dcUn pmUn anUn cdUn ctUn), slUn⟩)
    (cUn : PySem.W.codeIn K cdUn "Store.unlock" = true)
    (kUn : PySem.W.keepIn K (.ref fUn) = true)
    (aWr : PySem.W.findIn K (.ref CS) "write" = some (some (.ref fWr)))
    (iWr : PySem.W.isFn K (.ref fWr) = true)
    (lWr : K.lookup fWr = some ⟨ocWr, odWr, .func (PySem.W.fnOf "write" "Store.write" (defArgs sWrite) (defBody sWrite) (defScope sWrite) .none kVWr dcWr pmWr anWr cdWr ctWr), slWr⟩)
    (cWr : PySem.W.codeIn K cdWr "Store.write" = true)
    (kWr : PySem.W.keepIn K (.ref fWr) = true)
    (aRf : PySem.W.findIn K (.ref CS) "_refuse_others" = some (some (.ref fRf)))
    (iRf : PySem.W.isFn K (.ref fRf) = true)
    (lRf : K.lookup fRf = some ⟨ocRf, odRf, .func (PySem.W.fnOf "_refuse_others" "Store._refuse_others" (defArgs sRefuse) (defBody sRefuse) (defScope sRefuse) .none kVRf dcRf pmRf anRf cdRf ctRf), slRf⟩)
    (cRf : PySem.W.codeIn K cdRf "Store._refuse_others" = true)
    (kRf : PySem.W.keepIn K (.ref fRf) = true)
    (aNx : PySem.W.findIn K (.ref CS) "_is_next" = some (some (.ref fNx)))
    (iNx : PySem.W.isFn K (.ref fNx) = true)
    (lNx : K.lookup fNx = some ⟨ocNx, odNx, .func (PySem.W.fnOf "_is_next" "Store._is_next" (defArgs sNext) (defBody sNext) (defScope sNext) .none kVNx dcNx pmNx anNx cdNx ctNx), slNx⟩)
    (cNx : PySem.W.codeIn K cdNx "Store._is_next" = true)
    (kNx : PySem.W.keepIn K (.ref fNx) = true)
    (qL : ClsF K "Locked" "Locked.__init__" B f0 CL fIL ccL cdaL [("holder", ⟨48, 23, 48, 29⟩)] ⟨48, 17, 48, 21⟩ [supCall [.Name "holder" ⟨49, 25, 49, 31⟩] ⟨49, 8, 49, 13⟩ ⟨49, 8, 49, 15⟩ ⟨49, 8, 49, 24⟩ ⟨49, 8, 49, 32⟩ ⟨49, 8, 49, 32⟩, setF "holder" ⟨50, 8, 50, 12⟩ ⟨50, 8, 50, 19⟩ ⟨50, 22, 50, 28⟩ ⟨50, 8, 50, 28⟩])
    (qZ : ClsF K "Stale" "Stale.__init__" B f0 CZ fIZ ccZ cdaZ [("serial", ⟨53, 23, 53, 29⟩)] ⟨53, 17, 53, 21⟩ [supCall [.Name "serial" ⟨54, 25, 54, 31⟩] ⟨54, 8, 54, 13⟩ ⟨54, 8, 54, 15⟩ ⟨54, 8, 54, 24⟩ ⟨54, 8, 54, 32⟩ ⟨54, 8, 54, 32⟩, setF "serial" ⟨55, 8, 55, 12⟩ ⟨55, 8, 55, 19⟩ ⟨55, 22, 55, 28⟩ ⟨55, 8, 55, 28⟩])
    (sLL : PySem.W.subIn K (.ref CL) (.ref CL) = some true)
    (sZL : PySem.W.subIn K (.ref CZ) (.ref CL) = some false)
    (sZZ : PySem.W.subIn K (.ref CZ) (.ref CZ) = some true)
    (tab : ∀ c P, PySem.W.tabIn K "_law_right" = some (c, P) → PySem.W.CodeHd h c P ∧ h.get? P = some { cls := .none, data := .fields #[] }) :
    LawAtS PySem.Challenge.rw_planfirst_k25_whole_stores_and_locks w K CX0 10 63 "_law_script" mg fa h := by
  have e := hfa.symm.trans (PySem.W.mg_of X G aLaw)
  cases e
  have FEq := fun_mk (st := Dq.sEqual) lEq cEq kEq
  have FPod := fun_mk (st := Dq.sPod) lPod cPod kPod
  have FInt := fun_mk (st := sInt) lInt cInt kInt
  have FFrs := fun_mk (st := sFresh) lFrs cFrs kFrs
  have FCel := fun_mk (st := sCell) lCel cCel kCel
  have FWel := fun_mk (st := Pf.sWell) lWel cWel kWel
  have FDrw := fun_mk (st := Pf.sDraw) lDrw cDrw kDrw
  have FOne := fun_mk (st := Pf.sOne) lOne cOne kOne
  have FTld := fun_mk (st := sTold) lTld cTld kTld
  have FDue := fun_mk (st := sDue) lDue cDue kDue
  have FRgt := fun_mk (st := sRight) lRgt cRgt kRgt
  have FLaw := fun_mk (st := sLaw) lLaw cLaw kLaw
  have FSI := fun_mk (st := sSInit) lSI cSI kSI
  have FSP := fun_mk (st := sParts) lSP cSP kSP
  have FSE := fun_mk (st := sVEq) lSE cSE kSE
  have FOI := fun_mk (st := sOInit) lOI cOI kOI
  have FKp := fun_mk (st := sKept) lKp cKp kKp
  have FLk := fun_mk (st := sLock) lLk cLk kLk
  have FUn := fun_mk (st := sUnlock) lUn cUn kUn
  have FWr := fun_mk (st := sWrite) lWr cWr kWr
  have FRf := fun_mk (st := sRefuse) lRf cRf kRf
  have FNx := fun_mk (st := sNext) lNx cNx kNx
  have bEq := FEq.binds (ps := ["one", "other"]) fun _ _ _ _ _ _ us hl => match us, hl with | [_, _], _ => rfl
  have bPod := FPod.binds (ps := ["one", "other"]) fun _ _ _ _ _ _ us hl => match us, hl with | [_, _], _ => rfl
  have bInt := FInt.binds (ps := ["thing"]) fun _ _ _ _ _ _ us hl => match us, hl with | [_], _ => rfl
  have bFrs := FFrs.binds (ps := ["value"]) fun _ _ _ _ _ _ us hl => match us, hl with | [_], _ => rfl
  have bCel := FCel.binds (ps := ["_law_script", "_law_k"]) fun _ _ _ _ _ _ us hl => match us, hl with | [_, _], _ => rfl
  have bWel := FWel.binds (ps := ["_law_cell"]) fun _ _ _ _ _ _ us hl => match us, hl with | [_], _ => rfl
  have bDrw := FDrw.binds (ps := ["_law_well_here", "_law_often"]) fun _ _ _ _ _ _ us hl => match us, hl with | [_, _], _ => rfl
  have bOne := FOne.binds (ps := ["_law_well_here", "_law_some"]) fun _ _ _ _ _ _ us hl => match us, hl with | [_, _], _ => rfl
  have bTld := FTld.binds (ps := ["_law_ask"]) fun _ _ _ _ _ _ us hl => match us, hl with | [_], _ => rfl
  have bDue := FDue.binds (ps := ["_law_m", "_law_word", "_law_holder", "_law_state"]) fun _ _ _ _ _ _ us hl => match us, hl with | [_, _, _, _], _ => rfl
  have bRgt := FRgt.binds (ps := ["_law_well_here"]) fun _ _ _ _ _ _ us hl => match us, hl with | [_], _ => rfl
  have bLaw := FLaw.binds (ps := ["_law_script"]) fun _ _ _ _ _ _ us hl => match us, hl with | [_], _ => rfl
  have bSI := FSI.binds (ps := ["self", "objects", "deposed", "outputs", "serial"]) fun _ _ _ _ _ _ us hl => match us, hl with | [_, _, _, _, _], _ => rfl
  have bSP := FSP.binds (ps := ["self"]) fun _ _ _ _ _ _ us hl => match us, hl with | [_], _ => rfl
  have bSE := FSE.binds (ps := ["self", "other"]) fun _ _ _ _ _ _ us hl => match us, hl with | [_, _], _ => rfl
  have bOI := FOI.binds (ps := ["self", "state"]) fun _ _ _ _ _ _ us hl => match us, hl with | [_, _], _ => rfl
  have bKp := FKp.binds (ps := ["self"]) fun _ _ _ _ _ _ us hl => match us, hl with | [_], _ => rfl
  have bLk := FLk.binds (ps := ["self", "holder"]) fun _ _ _ _ _ _ us hl => match us, hl with | [_, _], _ => rfl
  have bUn := FUn.binds (ps := ["self", "holder"]) fun _ _ _ _ _ _ us hl => match us, hl with | [_, _], _ => rfl
  have bWr := FWr.binds (ps := ["self", "holder", "state"]) fun _ _ _ _ _ _ us hl => match us, hl with | [_, _, _], _ => rfl
  have bRf := FRf.binds (ps := ["self", "holder"]) fun _ _ _ _ _ _ us hl => match us, hl with | [_, _], _ => rfl
  have bNx := FNx.binds (ps := ["self", "serial"]) fun _ _ _ _ _ _ us hl => match us, hl with | [_, _], _ => rfl
  have gEq := PySem.W.mg_of X G aEq
  have gPod := PySem.W.mg_of X G aPod
  have gInt := PySem.W.mg_of X G aInt
  have gFrs := PySem.W.mg_of X G aFrs
  have gCel := PySem.W.mg_of X G aCel
  have gWel := PySem.W.mg_of X G aWel
  have gDrw := PySem.W.mg_of X G aDrw
  have gOne := PySem.W.mg_of X G aOne
  have gTld := PySem.W.mg_of X G aTld
  have gDue := PySem.W.mg_of X G aDue
  have gRgt := PySem.W.mg_of X G aRgt
  have gLaw := PySem.W.mg_of X G aLaw
  have n_isinstance := PySem.W.mg_none_of X G z_isinstance
  have n_len := PySem.W.mg_none_of X G z_len
  have n_int := PySem.W.mg_none_of X G z_int
  have n_bool := PySem.W.mg_none_of X G z_bool
  have n_str := PySem.W.mg_none_of X G z_str
  have n_dict := PySem.W.mg_none_of X G z_dict
  have n_tuple := PySem.W.mg_none_of X G z_tuple
  have n_list := PySem.W.mg_none_of X G z_list
  have n_range := PySem.W.mg_none_of X G z_range
  have n_zip := PySem.W.mg_none_of X G z_zip
  have n_type := PySem.W.mg_none_of X G z_type
  have n_super := PySem.W.mg_none_of X G z_super
  have gCT := PySem.W.mg_of X G aCT
  have gCS := PySem.W.mg_of X G aCS
  have TN : TxtN mg := ⟨n_int, n_len⟩
  have TF : TxtF mg := ⟨n_isinstance, n_tuple, n_dict⟩
  have TE : TxtE mg := ⟨n_len, n_list, n_zip, n_type, n_tuple, n_dict, n_isinstance⟩
  have me : PySem.W.kitOne K (.ref CT) (.ref CT) = some true := by unfold PySem.W.kitOne; rw [if_pos (beq_self_eq_true _)]
  have kT_list := kitT_of (K := K) (C := CT) (T := "list") mT_list (by decide +kernel)
  have kT_dict := kitT_of (K := K) (C := CT) (T := "dict") mT_dict (by decide +kernel)
  have kT_tuple := kitT_of (K := K) (C := CT) (T := "tuple") mT_tuple (by decide +kernel)
  have kT_str := kitT_of (K := K) (C := CT) (T := "str") mT_str (by decide +kernel)
  have clT : Cls K CT := ⟨pgCT, hdCT, poCT, saCT⟩
  have IC : C8.InsC K CT := ⟨clT, ha, hn, htk, hm, me⟩
  have TS : TxtS K mg CT := ⟨clT, nT_objects, nT_deposed, nT_outputs, nT_serial, gCT⟩
  have TO : TxtO K mg CS := ⟨⟨pgCS, hdCS, poCS, saCS⟩, nS_state, nS_holder, gCS⟩
  have OK : ObsOk K (OS CT) := ⟨fun k ⟨a, e, s⟩ => ⟨a, e, s.keep k⟩, fun ⟨a, e, ⟨dx, _, _, _, s, _⟩⟩ => ⟨a, dx, _, e, s⟩, fun _ => IC, fun _ T hT => by
    simp only [List.mem_cons, List.not_mem_nil, or_false] at hT
    rcases hT with rfl | rfl | rfl <;> assumption, fun _ => mkCT⟩
  have clB : ∀ {x qual fI cc cda fs p1 body C}, ClsF K x qual B f0 C fI cc cda fs p1 body → (PySem.W.clsIn K C).isSome = true := fun q => by
    obtain ⟨cd, e, _⟩ := q.cdOf
    rw [e]; rfl
  have TC : TxtC K mg CL CZ := ⟨PySem.W.mg_of X G qL.aC, PySem.W.mg_of X G qZ.aC, ⟨qL.ga, qL.gg, qL.exC, qL.hdC⟩, ⟨qZ.ga, qZ.gg, qZ.exC, qZ.hdC⟩, qL.no _ (by simp), qZ.no _ (by simp), exm_is qL.exC (clB qL) qL.tyC sLL, exm_is qL.exC (clB qL) qL.tyC sZL, exm_is qZ.exC (clB qZ) qZ.tyC sZZ⟩
  obtain ⟨tC, tP⟩ := tab cR PR (by unfold PySem.W.tabIn; rw [aRgt]; simp only; rw [lRgt]; simp only [PySem.W.fnOf]; rw [coR]; simp only; rw [v11])
  refine ⟨PySem.W.fnOf "law" "law" (defArgs St.sLaw) (defBody St.sLaw) (defScope St.sLaw) .none kVLaw dcLaw pmLaw anLaw cdLaw ctLaw, [(cR, PR)], St.spLaw K PR, (fun p hp => by rw [List.mem_singleton.mp hp]; exact tP), (fun p hp => by rw [List.mem_singleton.mp hp]; exact nP), (fun p hp => by rw [List.mem_singleton.mp hp]; exact tC), (fun s v => .of_eq rfl), (fun H a ns hl _ hH hS => ⟨a, ns, rfl, hS, hl, (fun p hp => by rw [List.mem_singleton.mp hp]; exact TabS.nil (hH _ (List.mem_singleton.mpr rfl))), fun _ => rfl⟩), fun base _ _ hTB => ?_⟩
  have TB := hTB (cR, PR) (List.mem_singleton.mpr rfl)
  have F0 : FnR P0 w K mg base CX0 2 f0 (spBase K) := base_fn lB cB
  have XL : TxtX P0 w K mg base "Locked" CL "holder" fIL := ⟨qL.oex, qL.iC, qL.tI, init_one (by decide +kernel) (by decide +kernel) (by decide +kernel) (by decide +kernel) (by decide +kernel) (by decide +kernel) (qL.iniT tB0 nB0 tp) n_super F0 (fun _ _ _ _ _ => rfl) (fun _ => rfl), PySem.W.mg_of X G qL.aC⟩
  have XZ : TxtX P0 w K mg base "Stale" CZ "serial" fIZ := ⟨qZ.oex, qZ.iC, qZ.tI, init_one (by decide +kernel) (by decide +kernel) (by decide +kernel) (by decide +kernel) (by decide +kernel) (by decide +kernel) (qZ.iniT tB0 nB0 tp) n_super F0 (fun _ _ _ _ _ => rfl) (fun _ => rfl), PySem.W.mg_of X G qZ.aC⟩
  have DPod : Def P0 w K mg base 1 "_pairs_of_dicts" fPod _ ["one", "other"] spPod := ⟨ok_pod FPod TE, gPod, FPod.kp, bPod⟩
  have OE0 : ObEq P0 w K mg base 1 O0 := ⟨fun _ _ _ _ _ _ => fun _ _ _ _ _ _ _ _ _ _ _ _ ⟨o, _⟩ => Empty.elim o⟩
  have DEq0 : Def P0 w K mg base 2 "equal" fEq _ ["one", "other"] (spEqual O0) := ⟨ok_equal (Nat.le_refl 1) FEq TE O0ok OE0 DPod, gEq, FEq.kp, bEq⟩
  have GSP := ok_parts (P := P0) (w := w) (mg := mg) (base := base) FSP TS
  have GSE := ok_seq (n := 0) FSE TS TE OK ⟨aSP, iSP, kSP⟩ GSP bSP DEq0
  have OE : ObEq P0 w K mg base 3 (OS CT) := obeq_S OK ⟨aSE, iSE⟩ GSE bSE
  have DEq : Def P0 w K mg base 4 "equal" fEq _ ["one", "other"] (spEqual (OS CT)) := ⟨ok_equal (by decide) FEq TE OK OE DPod, gEq, FEq.kp, bEq⟩
  have DInt : Def P0 w K mg base 1 "is_integer" fInt _ ["thing"] spInt := ⟨ok_int FInt TF n_int n_bool, gInt, FInt.kp, bInt⟩
  have DF0 : Def P0 w K mg base 1 "fresh" fFrs _ ["value"] spFr0 := ⟨ok_fr0 FFrs TF, gFrs, FFrs.kp, bFrs⟩
  have DF : Def P0 w K mg base 2 "fresh" fFrs _ ["value"] spFr1 := ⟨ok_fr (sp := spFr0) FFrs TF DF0, gFrs, FFrs.kp, bFrs⟩
  have GRf := ok_refuse FRf TO XL DEq
  have GNx := ok_next (P := P0) (w := w) (base := base) FNx TO TS DInt
  have R : TxtR P0 w K mg base CS CT CL CZ fSI fOI fLk fUn fWr fKp fSE _ _ _ _ _ _ _ := ⟨TS, TO, TC, OK, n_range, ⟨mkCT, aSI, iSI, kcCT⟩, ok_sinit FSI TS DF, bSI, ⟨mkCS, aOI, iOI, kcCS⟩, ok_oinit FOI TO, bOI,
    ⟨aLk, iLk, kLk⟩, ok_lock FLk TO XL, bLk, ⟨aUn, iUn, kUn⟩, ok_unlock FUn TO ⟨aRf, iRf, kRf⟩ GRf bRf, bUn, ⟨aWr, iWr, kWr⟩, ok_write FWr TO TS IC n_isinstance XZ ⟨aRf, iRf, kRf⟩ GRf bRf ⟨aNx, iNx, kNx⟩ GNx bNx, bWr, ⟨aKp, iKp, kKp⟩, ok_kept FKp TO, bKp, ⟨aSE, iSE⟩, GSE, bSE⟩
  have DW : Def P0 w K mg base 1 "_law_well" fWel _ ["_law_cell"] spWell := ⟨ok_well FWel TN, gWel, FWel.kp, bWel⟩
  have DD : Def P0 w K mg base 1 "_law_draw" fDrw _ ["_law_well_here", "_law_often"] spDraw := ⟨ok_draw FDrw TN, gDrw, FDrw.kp, bDrw⟩
  have D1 : Def P0 w K mg base 2 "_law_one" fOne _ ["_law_well_here", "_law_some"] (spOne K) := ⟨ok_one FOne TN FDrw bDrw gDrw, gOne, FOne.kp, bOne⟩
  have DU : Def P0 w K mg base 1 "_law_due" fDue _ NDue (spDue CT) := ⟨ok_due FDue TS OK kT_str n_isinstance n_str, gDue, FDue.kp, bDue⟩
  have DC : Def P0 w K mg base 1 "_law_cell_at" fCel _ ["_law_script", "_law_k"] (spCell K) := ⟨ok_cell FCel n_len, gCel, FCel.kp, bCel⟩
  have DR : Def P0 w K mg base 9 "_law_right" fRgt _ ["_law_well_here"] (spRight PR) := ⟨ok_right lRgt cRgt TB lTld cTld kTld gTld bTld R DD D1 DU, gRgt, FRgt.kp, bRgt⟩
  exact St.ok_law FLaw n_range DC DW DR
end St

open PySem PySem.W PyProof.Rows
set_option Elab.async false
set_option maxRecDepth 100000 in
set_option maxHeartbeats 0 in
theorem PySem.Challenge.cw_planfirst_k25_whole_stores_and_locks_holds : PySem.Challenge.rw_planfirst_k25_whole_stores_and_locks.Holds := by
  w_on; o_law; k_head; (case hw => w_witness2)
  k_fill
  refine St.walk_tab (l := PySem.Challenge.rw_planfirst_k25_whole_stores_and_locks) (n := 63) (k := 10) (x := "_law_script") (CX := fun _ => L2.CX0) "_law_right" rfl (by decide) rfl ⟨rfl, by decide, by decide⟩ ?R (fun w h Y => PySem.W.km_in_of Y) ?F (fun _ _ _ _ _ h => h)
  case R => decide +kernel
  case F =>
    intro w mg fa h KX G hmg tab
    refine' St.all_mk KX G hmg ?aB ?iB ?lB ?cB ?tB0 ?nB0 ?tp ?aEq ?lEq ?cEq ?kEq ?aPod ?lPod ?cPod ?kPod ?aInt ?lInt ?cInt ?kInt ?aFrs ?lFrs ?cFrs ?kFrs ?aCel ?lCel ?cCel ?kCel ?aWel ?lWel ?cWel ?kWel ?aDrw ?lDrw ?cDrw ?kDrw ?aOne ?lOne ?cOne ?kOne ?aTld ?lTld ?cTld ?kTld ?aDue ?lDue ?cDue ?kDue ?aRgt ?lRgt ?cRgt ?kRgt ?aLaw ?lLaw ?cLaw ?kLaw ?coR ?v11 ?nP ?z_isinstance ?z_len ?z_int ?z_bool ?z_str ?z_dict ?z_tuple ?z_list ?z_range ?z_zip ?z_type ?z_super ?aCT ?pgCT ?hdCT ?poCT ?saCT ?mkCT ?kcCT ?aCS ?pgCS ?hdCS ?poCS ?saCS ?mkCS ?kcCS ?ha ?hn ?htk ?hm ?nT_objects ?nT_deposed ?nT_outputs ?nT_serial ?nS_state ?nS_holder ?mT_list ?mT_dict ?mT_tuple ?mT_str ?aSI ?iSI ?lSI ?cSI ?kSI ?aSP ?iSP ?lSP ?cSP ?kSP ?aSE ?iSE ?lSE ?cSE ?kSE ?aOI ?iOI ?lOI ?cOI ?kOI ?aKp ?iKp ?lKp ?cKp ?kKp ?aLk ?iLk ?lLk ?cLk ?kLk ?aUn ?iUn ?lUn ?cUn ?kUn ?aWr ?iWr ?lWr ?cWr ?kWr ?aRf ?iRf ?lRf ?cRf ?kRf ?aNx ?iNx ?lNx ?cNx ?kNx
      ⟨?aCLx, ⟨_, _, _, _, _, _, _, _, _, _, _, _, _, _, ?xCLx⟩, ?saLx, ?gaLx, ?ggLx, ?exCLx, ?tyCLx, ?kCLx, ?hdCLx, ?clLx, ?stLx, ?iCLx, ?tILx, ⟨_, _, _, _, _, _, ?lkLx⟩, ?cdLx, ⟨_, _, _, ?ceLx⟩, ⟨_, _, _, _, _, _, ?coLx, ?cvLx, ?cfLx⟩, ?noLx, ?suLx⟩
      ⟨?aCZx, ⟨_, _, _, _, _, _, _, _, _, _, _, _, _, _, ?xCZx⟩, ?saZx, ?gaZx, ?ggZx, ?exCZx, ?tyCZx, ?kCZx, ?hdCZx, ?clZx, ?stZx, ?iCZx, ?tIZx, ⟨_, _, _, _, _, _, ?lkZx⟩, ?cdZx, ⟨_, _, _, ?ceZx⟩, ⟨_, _, _, _, _, _, ?coZx, ?cvZx, ?cfZx⟩, ?noZx, ?suZx⟩ ?sLL ?sZL ?sZZ tab
    (case aB => k_is)
    (case iB => k_is)
    (case lB => k_is)
    (case cB => k_is)
    (case tB0 => k_is)
    (case nB0 => k_is)
    (case tp => k_is)
    (case aEq => k_is)
    (case lEq => k_is)
    (case cEq => k_is)
    (case kEq => k_is)
    (case aPod => k_is)
    (case lPod => k_is)
    (case cPod => k_is)
    (case kPod => k_is)
    (case aInt => k_is)
    (case lInt => k_is)
    (case cInt => k_is)
    (case kInt => k_is)
    (case aFrs => k_is)
    (case lFrs => k_is)
    (case cFrs => k_is)
    (case kFrs => k_is)
    (case aCel => k_is)
    (case lCel => k_is)
    (case cCel => k_is)
    (case kCel => k_is)
    (case aWel => k_is)
    (case lWel => k_is)
    (case cWel => k_is)
    (case kWel => k_is)
    (case aDrw => k_is)
    (case lDrw => k_is)
    (case cDrw => k_is)
    (case kDrw => k_is)
    (case aOne => k_is)
    (case lOne => k_is)
    (case cOne => k_is)
    (case kOne => k_is)
    (case aTld => k_is)
    (case lTld => k_is)
    (case cTld => k_is)
    (case kTld => k_is)
    (case aDue => k_is)
    (case lDue => k_is)
    (case cDue => k_is)
    (case kDue => k_is)
    (case aRgt => k_is)
    (case lRgt => k_is)
    (case cRgt => k_is)
    (case kRgt => k_is)
    (case aLaw => k_is)
    (case lLaw => k_is)
    (case cLaw => k_is)
    (case kLaw => k_is)
    (case coR => (apply Eq.trans; k_is; rfl))
    (case v11 => rfl)
    (case nP => first | k_is | rfl | (apply Eq.trans; k_is; rfl) | decide +kernel)
    (case z_isinstance => k_is)
    (case z_len => k_is)
    (case z_int => k_is)
    (case z_bool => k_is)
    (case z_str => k_is)
    (case z_dict => k_is)
    (case z_tuple => k_is)
    (case z_list => k_is)
    (case z_range => k_is)
    (case z_zip => k_is)
    (case z_type => k_is)
    (case z_super => k_is)
    (case aCT => k_is)
    (case pgCT => k_is)
    (case hdCT => k_is)
    (case poCT => k_is)
    (case saCT => k_is)
    (case mkCT => k_is)
    (case kcCT => k_is)
    (case aCS => k_is)
    (case pgCS => k_is)
    (case hdCS => k_is)
    (case poCS => k_is)
    (case saCS => k_is)
    (case mkCS => k_is)
    (case kcCS => k_is)
    (case ha => k_is)
    (case hn => k_is)
    (case htk => k_is)
    (case hm => k_is)
    (case nT_objects => k_is)
    (case nT_deposed => k_is)
    (case nT_outputs => k_is)
    (case nT_serial => k_is)
    (case nS_state => k_is)
    (case nS_holder => k_is)
    (case mT_list => k_is)
    (case mT_dict => k_is)
    (case mT_tuple => k_is)
    (case mT_str => k_is)
    (case aSI => k_is)
    (case iSI => k_is)
    (case lSI => k_is)
    (case cSI => k_is)
    (case kSI => k_is)
    (case aSP => k_is)
    (case iSP => k_is)
    (case lSP => k_is)
    (case cSP => k_is)
    (case kSP => k_is)
    (case aSE => k_is)
    (case iSE => k_is)
    (case lSE => k_is)
    (case cSE => k_is)
    (case kSE => k_is)
    (case aOI => k_is)
    (case iOI => k_is)
    (case lOI => k_is)
    (case cOI => k_is)
    (case kOI => k_is)
    (case aKp => k_is)
    (case iKp => k_is)
    (case lKp => k_is)
    (case cKp => k_is)
    (case kKp => k_is)
    (case aLk => k_is)
    (case iLk => k_is)
    (case lLk => k_is)
    (case cLk => k_is)
    (case kLk => k_is)
    (case aUn => k_is)
    (case iUn => k_is)
    (case lUn => k_is)
    (case cUn => k_is)
    (case kUn => k_is)
    (case aWr => k_is)
    (case iWr => k_is)
    (case lWr => k_is)
    (case cWr => k_is)
    (case kWr => k_is)
    (case aRf => k_is)
    (case iRf => k_is)
    (case lRf => k_is)
    (case cRf => k_is)
    (case kRf => k_is)
    (case aNx => k_is)
    (case iNx => k_is)
    (case lNx => k_is)
    (case cNx => k_is)
    (case kNx => k_is)
    (case aCLx => k_is)
    (case xCLx => (apply Eq.trans; k_is; rfl))
    (case saLx => k_is)
    (case gaLx => k_is)
    (case ggLx => k_is)
    (case exCLx => k_is)
    (case tyCLx => k_is)
    (case kCLx => k_is)
    (case hdCLx => k_is)
    (case clLx => k_is)
    (case stLx => k_is)
    (case iCLx => k_is)
    (case lkLx => (apply Eq.trans; k_is; rfl))
    (case tILx => k_is)
    (case cdLx => k_is)
    (case ceLx => (apply Eq.trans; k_is; rfl))
    (case coLx => (apply Eq.trans; k_is; rfl))
    (case cvLx => rfl)
    (case cfLx => decide +kernel)
    (case noLx => (intro f hf; (rcases List.mem_cons.mp hf with rfl | hf; k_is); (rcases List.mem_cons.mp hf with rfl | hf; k_is); exact nomatch hf))
    (case suLx => ks_is)
    (case aCZx => k_is)
    (case xCZx => (apply Eq.trans; k_is; rfl))
    (case saZx => k_is)
    (case gaZx => k_is)
    (case ggZx => k_is)
    (case exCZx => k_is)
    (case tyCZx => k_is)
    (case kCZx => k_is)
    (case hdCZx => k_is)
    (case clZx => k_is)
    (case stZx => k_is)
    (case iCZx => k_is)
    (case lkZx => (apply Eq.trans; k_is; rfl))
    (case tIZx => k_is)
    (case cdZx => k_is)
    (case ceZx => (apply Eq.trans; k_is; rfl))
    (case coZx => (apply Eq.trans; k_is; rfl))
    (case cvZx => rfl)
    (case cfZx => decide +kernel)
    (case noZx => (intro f hf; (rcases List.mem_cons.mp hf with rfl | hf; k_is); (rcases List.mem_cons.mp hf with rfl | hf; k_is); exact nomatch hf))
    (case suZx => ks_is)
    (case sLL => k_is)
    (case sZL => k_is)
    (case sZZ => k_is)

