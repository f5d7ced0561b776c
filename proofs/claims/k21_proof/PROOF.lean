import PyProof.Rows.All
import Wide.All
import OpenK.AllK
import Wide.FinOn
import HandS.ForMost
import HandS.Wide
import HandS.IsInst
import HandS.Codes
import HandS.Walk
import HandS.Strs
import HandS.MakeKwOnly
import KE.KDictZip
import KE.GoesEnum
import HandS.DictComp
import HandS.More
import HandS.Zip
import HandS.Star
import HandS.Defaults
import HandS.AnyAll
import HandS.Text
import HandS.Deep
import KE.DataFind
import KE.KSuper
import HandS.Exc
import HandS.ExcInit
import HandS.ClsMeth
import HandS.Nested
import KE.KExcIs
import KE.KExcStr
import PyProof.ReprRoads
import HandS.ExcValue
import HandS.ExcField
import HandS.WordsExc
import HandS.ExcOwn
import HandS.TryMany
import HandS.SlotsOwn
import PyProof.InstNe
import HandS.TupAny
import PyProof.NeData
import HandS.NoneIn
import HandS.DictTup
import HandS.Conv
import HandS.Lambda
import HandS.EndTab
import HandS.Ends
import PySem.Challenge.RW_planfirst_k21_objects_that_are_held
set_option Elab.async false
set_option linter.all false
set_option maxRecDepth 100000
set_option maxHeartbeats 4000000
namespace Pf
open PySem L2
/-- the text's statements by k05's numbers (the program's) -/
def tops : List Nat := [0, 2, 3, 4, 5, 6, 7, 14, 16, 17, 20, 21, 22, 23, 25, 26, 27, 28, 29, 30, 31, 32, 38, 39, 40, 41, 42]
/-- by this text's own numbers -/
def tp (i : Nat) : Stmt := PySem.Challenge.pw_planfirst_k21_objects_that_are_held.main.body.getD i (.Pass ⟨0, 0, 0, 0⟩)
def top (i : Nat) : Stmt := tp (tops.getD i 0)
abbrev sWell : Stmt := tp 40
abbrev sDraw : Stmt := tp 41
abbrev sOne : Stmt := tp 42
/-- a well stands at a: three whole numbers, drawn z times -/
def WellAt (H : Hp) (a : Addr) (z : Int) : Prop := ∃ x y : Int, H a = some (.lst [.int x, .int y, .int z])
/-- all that was tracked, but at a, is as it was -/
def But (a : Addr) (H H' : Hp) : Prop := ∀ b o, H b = some o → b ≠ a → H' b = some o
theorem But.upd {H : Hp} {a : Addr} {o : HO} : But a H (upd H a o) := fun b u e hb => (upd_ne hb).trans e
structure TxtN (mg : Str → Option Value) : Prop where
  int : mg "int" = none
  len : mg "len" = none
def spWell : Sp := fun vs H Q _ => ∃ (c : Int), vs = [.int c] ∧ ∀ (p : Addr) (o : HO), H p = none → WellAt (upd H p o) p 0 → Q (.ref p) (upd H p o)
def spDraw : Sp := fun vs H Q _ => ∃ (a : Addr) (n z : Int), vs = [.ref a, .int n] ∧ WellAt H a z ∧ 0 < n ∧ n < 1000000 ∧ 0 ≤ z ∧ z < 1000000 ∧
  ∀ (d z' : Int) (H' : Hp), 0 ≤ d → d < n → z ≤ z' → z' ≤ z + 1 → WellAt H' a z' → But a H H' → Q (.int d) H'
def spOne (K : PySem.W.Frag) : Sp := fun vs H Q _ => ∃ (a l : Addr) (z : Int) (xs : List V), vs = [.ref a, .ref l] ∧ WellAt H a z ∧ H l = some (.lst xs) ∧ l ≠ a ∧ 0 < xs.length ∧ xs.length < 1000000 ∧ 0 ≤ z ∧ z < 1000000 ∧
  ∀ (v : V) (z' : Int) (H' : Hp), v ∈ xs → z ≤ z' → z' ≤ z + 1 → WellAt H' a z' → But a H H' → Q v H'
theorem iteC {c : Bool} {A B : Prop} (e : c = true) (h : A) : if c = true then A else B := by rw [if_pos e]; exact h
theorem iteN {c : Bool} {A B : Prop} (e : c = false) (h : B) : if c = true then A else B := by rw [if_neg (by rw [e]; exact Bool.false_ne_true)]; exact h
section
variable {P : Program} {w : World} {K : PySem.W.Frag} {mg : Str → Option Value} {base : Heap}
theorem scWell : FnScope ["_law_cell"] ["_law_cell"] (defScope sWell) := ⟨rfl, rfl, rfl, by decide +kernel, rfl, by decide +kernel, by decide +kernel⟩
theorem scDraw : FnScope ["_law_well_here", "_law_often", "_law_found", "_law_mixed"] ["_law_well_here", "_law_often"] (defScope sDraw) := ⟨rfl, rfl, rfl, by decide +kernel, rfl, by decide +kernel, by decide +kernel⟩
theorem scOne : FnScope ["_law_well_here", "_law_some"] ["_law_well_here", "_law_some"] (defScope sOne) := ⟨rfl, rfl, rfl, by decide +kernel, rfl, by decide +kernel, by decide +kernel⟩
theorem ok_well {f : Addr} {fd : FuncData} (F : Fun K "_law_well" "_law_well" sWell f fd) (T : TxtN mg) : FnOk P w K mg base CX0 1 f fd ["_law_cell"] spWell := by
  refine F.ok scWell (fun vs H Q E h => ?_) (fun cdv A outer s H vs Q E hr h => ?_)
  · obtain ⟨c, rfl, _⟩ := h
    rfl
  · obtain ⟨c, rfl, k⟩ := h
    refine ⟨_, pss_one (ps_ret (pe_lst (pa_cons (pe_ifExp (pt_cmpR op_ge (pv 0) (pe_op op_pow pe_int pe_int) (nomark _)) (pv 0) pe_int) (pa_cons (pv 0) (pa_cons pe_int pa_nil))))), ?_⟩
    refine ⟨_, rfl, _, _, rfl, rfl, ⟨by decide, by decide, by decide⟩, _, _, rfl, rfl, _, rfl, ite2 (fun _ => ?_) fun _ => ?_⟩
    · refine ⟨_, rfl, _, rfl, by show 3 ≤ sizeLine; decide, fun p hp => ?_⟩
      exact k p _ hp ⟨_, _, upd_same⟩
    · refine ⟨_, rfl, by show 3 ≤ sizeLine; decide, fun p hp => ?_⟩
      exact k p _ hp ⟨_, _, upd_same⟩
theorem ok_draw {f : Addr} {fd : FuncData} (F : Fun K "_law_draw" "_law_draw" sDraw f fd) (T : TxtN mg) : FnOk P w K mg base CX0 1 f fd ["_law_well_here", "_law_often"] spDraw := by
  refine F.ok scDraw (fun vs H Q E h => ?_) (fun cdv A outer s H vs Q E hr h => ?_)
  · obtain ⟨a, n, z, rfl, _⟩ := h
    rfl
  · obtain ⟨a, n, z, rfl, ⟨x, y, ha⟩, hn0, hn1, hz0, hz1, k⟩ := h
    refine ⟨_, pss_cons (ps_if (pt_cmpR op_gt (pe_ix ix_list (pv 0) pe_int (fun _ _ => rfl)) pe_int (nomark _))
        (pss_cons (ps_set (i := 2) scDraw.nd rfl (Or.inl rfl) (pe_op op_mod (pe_callTy call_int1 (by rfl) T.int (by decide +kernel) (pa_cons (pe_ix ix_list (pv 0) pe_int (fun _ _ => rfl)) pa_nil)) (pv 1)))
        (pss_cons (ps_asg (pe_op op_fdivW (pe_ix ix_list (pv 0) pe_int (fun _ _ => rfl)) (pv 1)) (pg_sub (pv 0) pe_int set_list))
        (pss_one (ps_ret (pv 2)))))
        pss_nil)
      (pss_cons (ps_asg (pe_op op_add (pe_ix ix_list (pv 0) pe_int (fun _ _ => rfl)) pe_int) (pg_sub (pv 0) pe_int set_list))
      (pss_cons (ps_set (i := 3) scDraw.nd rfl (Or.inl rfl) (pe_op op_mod (pe_callTy call_int1 (by rfl) T.int (by decide +kernel) (pa_cons
          (pe_op op_add (pe_op op_add (pe_op op_mul (pe_ix ix_list (pv 0) pe_int (fun _ _ => rfl)) pe_int) (pe_op op_mul (pe_ix ix_list (pv 0) pe_int (fun _ _ => rfl)) pe_int)) pe_int) pa_nil)) pe_int))
      (pss_cons (ps_set (i := 3) scDraw.nd rfl (Or.inl rfl) (pe_op op_mod (pe_callTy call_int1 (by rfl) T.int (by decide +kernel) (pa_cons (pe_op op_mul (pv 3) (pe_op op_add (pe_op op_fdiv (pv 3) pe_int) pe_int)) pa_nil)) pe_int))
      (pss_cons (ps_set (i := 3) scDraw.nd rfl (Or.inl rfl) (pe_op op_mod (pe_callTy call_int1 (by rfl) T.int (by decide +kernel) (pa_cons (pe_op op_mul (pv 3) (pe_op op_add (pe_op op_fdiv (pv 3) pe_int) pe_int)) pa_nil)) pe_int))
      (pss_one (ps_ret (pe_op op_mod (pe_callTy call_int1 (by rfl) T.int (by decide +kernel) (pa_cons (pe_op op_fdiv (pv 3) pe_int) pa_nil)) (pv 1)))))))), ?_⟩
    refine ⟨_, rfl, a, _, _, _, rfl, rfl, SqL.of ha, atI_nat (j := 0) rfl, _, _, rfl, rfl, _, rfl, ?_⟩
    refine ite2 (fun hx => ?_) fun hx => ?_
    · refine ⟨_, rfl, a, _, _, _, rfl, rfl, SqL.of ha, atI_nat (j := 0) rfl, .inl ⟨_, rfl, _, rfl, _, _, rfl, rfl, hn0, ?_⟩⟩
      refine ⟨_, rfl, a, _, _, _, rfl, rfl, SqL.of ha, atI_nat (j := 0) rfl, _, rfl, _, _, rfl, rfl, wide_div hn0 (b := 20) (by omega) (by decide) (by decide), ?_⟩
      refine ⟨_, rfl, a, _, _, _, rfl, rfl, ha, rfl, ?_⟩
      refine ⟨_, rfl, ?_⟩
      exact k _ z _ (Int.emod_nonneg _ (by omega)) (Int.emod_lt_of_pos _ hn0) (by omega) (by omega) ⟨x / n, y, upd_same⟩ But.upd
    · refine ⟨_, rfl, a, _, _, _, rfl, rfl, SqL.of ha, atI_nat (j := 2) rfl, _, _, rfl, rfl, ?_⟩
      refine ⟨_, rfl, a, _, _, _, rfl, rfl, ha, rfl, ?_⟩
      have hb : upd H a (.lst [.int x, .int y, .int (z + 1)]) a = some (.lst [.int x, .int y, .int (z + 1)]) := upd_same
      refine ⟨_, rfl, a, _, _, _, rfl, rfl, SqL.of hb, atI_nat (j := 1) rfl, _, _, rfl, rfl, .inr ⟨by decide, by decide⟩, _, rfl, a, _, _, _, rfl, rfl, SqL.of hb, atI_nat (j := 2) rfl, _, _, rfl, rfl, .inr ⟨by decide, by decide⟩, _, _, rfl, rfl, _, _, rfl, rfl, .inl ⟨_, rfl, _, _, rfl, rfl, (by show (0 : Int) < 2147483647; decide), ?_⟩⟩
      generalize hq : (y * 69073 + (z + 1) * 1000033 + 24691) % 2147483647 = q
      have q0 : 0 ≤ q := by rw [← hq]; exact Int.emod_nonneg _ (by decide)
      have q1 : q < 2147483647 := by rw [← hq]; exact Int.emod_lt_of_pos _ (by decide)
      refine ⟨_, rfl, _, rfl, _, _, rfl, rfl, ⟨by decide, by decide⟩, _, _, rfl, rfl, ?_⟩
      refine ⟨_, _, rfl, rfl, .inl ⟨by omega, by omega⟩, .inl ⟨_, rfl, _, _, rfl, rfl, (by show (0 : Int) < 2147483629; decide), ?_⟩⟩
      generalize hq2 : (q * (q / 1019 + 40529)) % 2147483629 = r
      have r0 : 0 ≤ r := by rw [← hq2]; exact Int.emod_nonneg _ (by decide)
      have r1 : r < 2147483629 := by rw [← hq2]; exact Int.emod_lt_of_pos _ (by decide)
      refine ⟨_, rfl, _, rfl, _, _, rfl, rfl, ⟨by decide, by decide⟩, _, _, rfl, rfl, ?_⟩
      refine ⟨_, _, rfl, rfl, .inl ⟨by omega, by omega⟩, .inl ⟨_, rfl, _, _, rfl, rfl, (by show (0 : Int) < 2147483587; decide), ?_⟩⟩
      refine ⟨_, rfl, _, _, rfl, rfl, ⟨by decide, by decide⟩, .inl ⟨_, rfl, _, rfl, _, _, rfl, rfl, hn0, ?_⟩⟩
      exact k _ (z + 1) _ (Int.emod_nonneg _ (by omega)) (Int.emod_lt_of_pos _ hn0) (by omega) (by omega) ⟨x, y, hb⟩ But.upd
theorem ok_one {f fD : Addr} {fd fdD : FuncData} (F : Fun K "_law_one" "_law_one" sOne f fd) (T : TxtN mg) (FD : Fun K "_law_draw" "_law_draw" sDraw fD fdD) (bD : Binds K fdD ["_law_well_here", "_law_often"] []) (gD : mg "_law_draw" = some (.ref fD)) :
    FnOk P w K mg base CX0 2 f fd ["_law_well_here", "_law_some"] (spOne K) := by
  have GD : FnOk P w K mg base CX0 1 fD fdD ["_law_well_here", "_law_often"] spDraw := ok_draw FD T
  refine F.ok scOne (fun vs H Q E h => ?_) (fun cdv A outer s H vs Q E hr h => ?_)
  · obtain ⟨a, l, z, xs, rfl, _⟩ := h
    rfl
  · obtain ⟨a, l, z, xs, rfl, ha, hl, hal, hx0, hx1, hz0, hz1, k⟩ := h
    refine ⟨_, pss_one (ps_ret (pe_ix ix_list (pv 1) (pe_call GD hr rfl gD FD.kp bD .nil pass0 (pa_cons (pv 0) (pa_cons (pe_callB call_len_seq (by rfl) T.len PySem.boot_len (pa_cons (pv 1) pa_nil)) pa_nil))) (fun _ _ => rfl))), ?_⟩
    refine ⟨_, rfl, _, rfl, _, rfl, l, _, rfl, .inl (SqL.of hl), a, _, z, rfl, ha, by omega, by omega, hz0, hz1, fun d z' H' hd0 hd1 hz2 hz3 hw hk => ?_⟩
    obtain ⟨j, ej⟩ : ∃ j : Nat, d = (j : Int) := ⟨d.toNat, by omega⟩
    have hj : j < xs.length := by omega
    exact ⟨l, xs, _, xs[j], rfl, rfl, SqL.of (hk _ _ hl hal), at_of ej (List.getElem?_eq_getElem hj), k _ z' _ (List.getElem_mem hj) hz2 hz3 hw hk⟩
end
end Pf

set_option Elab.async false
set_option linter.all false
set_option maxRecDepth 100000
set_option maxHeartbeats 4000000
/-! a set of a list of texts, as many as there are: how many different ones it has -/
namespace TxS
open PySem PySem.Spec PyProof PyProof.Rows
/-- how many different texts, the last one first -/
def ct : List Str → Nat
  | [] => 0
  | x :: l => if x ∈ l then ct l else ct l + 1
theorem ct_cons (x : Str) (l : List Str) : ct (x :: l) = if x ∈ l then ct l else ct l + 1 := rfl
theorem ct_le : ∀ l, ct l ≤ l.length
  | [] => Nat.le_refl _
  | x :: l => by
    have := ct_le l
    unfold ct
    split <;> simp <;> omega
theorem ct_nd : ∀ l, ct l = l.length ↔ l.Nodup
  | [] => by simp [ct]
  | x :: l => by
    have h := ct_le l
    have e := ct_nd l
    unfold ct
    by_cases q : x ∈ l
    · rw [if_pos q, List.nodup_cons]
      constructor
      · intro k
        simp at k
        omega
      · intro k
        exact absurd q k.1
    · rw [if_neg q, List.nodup_cons]
      simp only [List.length_cons, Nat.add_right_cancel_iff, e]
      exact ⟨fun k => ⟨q, k⟩, fun k => k.2⟩
theorem ct_rev (l : List Str) : decide (ct l.reverse = l.length) = decide l.Nodup := by
  have e := ct_nd l.reverse
  rw [List.length_reverse, (List.reverse_perm l).nodup_iff] at e
  exact decide_eq_decide.mpr e
abbrev fsO (led : Bool) : Obj := { cls := .type "set", dict := none, data := .set #[] 0 (.fresh 0 0 led) }
section
variable {PG : Program} {ww : World} {AR : Around} {RR : Result → Shared → Prop} {It : Addr} {ft wt : List Addr} {GG : Array GenState → Array GenState → Prop} {N : Nat} {PV : Nat → Value → Prop} {SV : Nat → Shared → Prop}
theorem next_take (xs : List Str) {i : Nat} (h : i < xs.length) : xs.take (i + 1) = xs.take i ++ [xs.getD i Str.empty] := by
  rw [List.take_succ_eq_append_getElem h]
  simp [List.getD_eq_getElem?_getD, h]
theorem walk_tx (WK : WalksS PG ww AR.in1 It ft wt GG N PV SV) (B : Addr) (hB : B ∉ ft) (xs : List Str) (hz : xs.length = N) (hN : N ≤ 4000) (hv : ∀ i v, PV i v → ∃ t, v = .str (xs.getD i Str.empty) t) :
    ∀ (m i : Nat) (st : Shared), N - i = m → i ≤ N → SV i st → st.heap.SetOf (PySem.strKind PG ww) B (fun z => (xs.take i).any (· == z)) (ct (xs.take i).reverse) →
      (∀ st', Moved (B :: wt) GG st st' → st'.heap.SetOf (PySem.strKind PG ww) B (fun z => (xs.take N).any (· == z)) (ct (xs.take N).reverse) → RR (.ok (.ret .none)) st') →
      codeAny (model PG ww) AR (.builtin "set.update.loop" ⟨[.ref B, .ref It], []⟩) RR st := by
  have nB : B ∉ wt := fun q => hB (WK.sub _ q)
  have up : ∀ b ∈ wt, b ∈ B :: wt := fun b q => List.mem_cons_of_mem _ q
  intro m
  induction m with
  | zero =>
    intro i st hm hi hs SO fin
    obtain rfl : i = N := by omega
    refine codeAny_builtin (F.entry_set_update_loop) ?_
    rw [Around.under_plainId (F.plain_set_update_loop) _]
    show wpAny _ AR.in1 (pyNext (.ref It) >>= _) _ _ st
    refine wpAny_bind (WK.done st _ _ hs fun st' mv => ?_)
    refine wpAny_pure (fin st' (mv.mono up) ?_)
    obtain ⟨o, es, ep, t, ho, more⟩ := SO
    exact ⟨o, es, ep, t, mv.heap B _ nB ho, more⟩
  | succ m ih =>
    intro i st hm hi hs SO fin
    have lt : i < N := by omega
    refine codeAny_builtin (F.entry_set_update_loop) ?_
    rw [Around.under_plainId (F.plain_set_update_loop) _]
    show wpAny _ AR.in1 (pyNext (.ref It) >>= _) _ _ st
    refine wpAny_bind (WK.item i st _ _ lt hs fun v st' pv hs' mv => ?_)
    obtain ⟨t, rfl⟩ := hv i v pv
    have SO' : st'.heap.SetOf (PySem.strKind PG ww) B (fun z => (xs.take i).any (· == z)) (ct (xs.take i).reverse) := by
      obtain ⟨o, es, ep, u, ho, more⟩ := SO
      exact ⟨o, es, ep, u, mv.heap B _ nB ho, more⟩
    have few : ct (xs.take i).reverse ≤ i := Nat.le_trans (ct_le _) (by rw [List.length_reverse, List.length_take]; omega)
    refine wpAny_bind (wpAny_holding (?_))
    unfold setAdd
    refine wpAny_holding (wpAny_bind ((PySem.strKind PG ww).pyHash (k := xs.getD i Str.empty) (strKind_is _ _ _ _) ?_))
    refine wpAny_setAddHashed_of (knd := PySem.strKind PG ww) (s := { st' with toks := st'.toks + 1 }) (strKind_is _ _ _ _) rfl SO' (by unfold scanBound; omega) fun h2 same SO2 => ?_
    have SO3 : h2.SetOf (PySem.strKind PG ww) B (fun z => (xs.take (i + 1)).any (· == z)) (ct (xs.take (i + 1)).reverse) := by
      have e := next_take xs (i := i) (by omega)
      refine SetOf_congr SO2 (fun z => ?_) ?_
      · rw [e, List.any_append]
        congr 1
        rw [List.any_cons, List.any_nil, Bool.or_false]
        by_cases q : z = xs.getD i Str.empty
        · rw [q]; simp
        · rw [decide_eq_false q]
          exact (beq_eq_false_iff_ne.mpr fun w => q w.symm).symm
      · rw [e, show (xs.take i ++ [xs.getD i Str.empty]).reverse = xs.getD i Str.empty :: (xs.take i).reverse by simp, ct_cons]
        by_cases q : xs.getD i Str.empty ∈ xs.take i
        · rw [if_pos (List.mem_reverse.mpr q), if_pos (List.any_eq_true.mpr ⟨_, q, by simp⟩)]
        · rw [if_neg fun w => q (List.mem_reverse.mp w), if_neg fun w => ?_]
          obtain ⟨y, hy, e2⟩ := List.any_eq_true.mp w
          exact q ((beq_iff_eq.mp e2) ▸ hy)
    refine wpAny_pure ⟨plainId_quiet F.plain_set_update_loop _, ih (i + 1) _ (by omega) lt (WK.frame _ st' _ _ hs' (Nat.le_succ _) fun b hb o e => ?_) SO3 fun st2 mv2 SO4 => ?_⟩
    · rw [same.2 b (fun q : b = B => hB (q ▸ hb))]; exact e
    · refine fin st2 (Moved.trans WK.gtrans ((mv.mono up).then_heap (Nat.le_succ _) fun b o hb e => ?_) mv2) SO4
      rw [same.2 b (fun q : b = B => hb (q ▸ List.mem_cons_self))]; exact e
end
section
variable {PG : Program} {ww : World} {AR : Around} {EE : Value → Shared → Prop} {st : Shared}
theorem set_of_texts {p : Addr} {us : Array Value} {xs : List Str} {QQ : Value → Shared → Prop}
    (calm : AR.handled = none) (at_p : st.heap.IsList p us) (tx : StrsAre us.toList xs) (hN : xs.length ≤ 4000)
    (h : ∀ (h2 : Heap) (tk : Nat), h2.SetOf (PySem.strKind PG ww) st.heap.objs.size (fun z => (xs.take us.size).any (· == z)) (ct (xs.take us.size).reverse) →
      (∀ b o, b < st.heap.objs.size → st.heap.get? b = some o → h2.get? b = some o) → QQ (.ref st.heap.objs.size) { st with heap := h2, toks := tk }) :
    wpAny (model PG ww) AR (call (.type "set") [.ref p]) QQ EE st := by
  obtain ⟨_, _, mro⟩ := PySem.F.called_set.mro
  have g1 := PySem.F.called_set.made
  have g2 := PySem.F.called_set.sub
  have g3 := PySem.F.called_set.notType
  have g4 := PySem.F.called_set.canCreate
  have g5 := PySem.F.typeCall_set_1 (.ref p)
  refine wpAny_call (codeAny_of_tree (?_))
  show wpAny (model PG ww) _ (callAny (.type "set") _) _ _ st
  refine wpAny_pure ⟨Code.quiet_builtin _ (by decide +kernel), codeAny_builtin (PySem.F.entry_type_call) ?_⟩
  rw [Around.under_plain (weight_type_call_type "set" [.ref p] []) rfl]
  all_goals repeat' first | assumption | wp_step
  refine codeAny_mono (PySem.code_set_new_1 (.ref p) (E := EE) (Q₁ := fun v s1 => ∃ led : Bool, v = .ref st.heap.objs.size ∧ s1 = { st with heap := st.heap.push (fsO led) }) fun led => ⟨led, rfl, rfl⟩) fun r s1 hr => ?_
  rcases r with e | fl
  · exact hr
  rcases fl with _ | _ | _ | v
  all_goals first | exact hr.elim | skip
  obtain ⟨led, rfl, rfl⟩ := hr
  have nw : (st.heap.push (fsO led)).get? st.heap.objs.size = some (fsO led) := Heap.get?_push_size _ rfl
  have ty : Shared.TypeIs { st with heap := st.heap.push (fsO led) } (.ref st.heap.objs.size) "set" := ⟨_, nw, rfl⟩
  have g6 := PySem.F.called_set.init.lookup
  have g7 := PySem.F.called_set.init.bind (.ref st.heap.objs.size)
  all_goals repeat' first | assumption | wp_step
  refine codeAny_mono (codeAny_call_builtin (R := wants (fun v s2 => v = .none ∧ ∃ h2 tk, s2 = { st with heap := h2, toks := tk } ∧
      h2.SetOf (PySem.strKind PG ww) st.heap.objs.size (fun z => (xs.take us.size).any (· == z)) (ct (xs.take us.size).reverse) ∧
      (∀ b o, b < st.heap.objs.size → st.heap.get? b = some o → h2.get? b = some o)) EE) PySem.F.called_set.init.plain PySem.F.entry_set_init (check_set_init_1 ty ?_)) fun r2 s2 hr2 => ?_
  · obtain ⟨⟨kl, kd, kx, ks⟩, ho, hc, nn, hd⟩ := at_p
    simp only at hc hd
    subst hc
    subst hd
    have old : (st.heap.push (fsO led)).get? p = some { cls := .type "list", dict := kd, data := .seq us nn, slots := ks } := Heap.get?_push_of_some _ ho
    have lp : (st.heap.push (fsO led)).IsList p us := ⟨_, old, rfl, nn, rfl⟩
    have s1 := PySem.F.sub_list_set
    have s2 := PySem.F.sub_list_frozenset
    have s3 : (Value.type "list" == Value.type "dict") = false := by decide
    unfold Builtin.«set.__init__»
    unfold noKeywords
    unfold Builtin.Frozenset.updateFrom
    generalize hPI : pyIter = PI
    wp_walk
    subst hPI
    refine wpAny_pyIter_list lp (wpAny_bind (wpAny_runValue ?_))
    have plt : p < st.heap.objs.size := Heap.lt_size ho
    have sz : (st.heap.push (fsO led)).objs.size = st.heap.objs.size + 1 := Heap.size_push ..
    have hid : AR.in1.in1.in1.handled = none := by simp [calm]
    have pne : p ≠ (st.heap.push (fsO led)).objs.size := sz ▸ Nat.ne_of_lt (Nat.lt_succ_of_lt plt)
    have out : st.heap.objs.size ∉ [(st.heap.push (fsO led)).objs.size, p] := by
      rw [sz, List.mem_cons, List.mem_singleton]
      exact fun q => q.elim (fun q => Nat.ne_of_lt (Nat.lt_succ_self _) q) fun q => Nat.ne_of_gt plt q
    have len : xs.length = us.size := by rw [← StrsAre.len_eq tx, Array.length_toList]
    have val : ∀ (i : Nat) (v : Value), us[i]? = some v → ∃ t, v = .str (xs.getD i Str.empty) t := fun i v q => SS.strs_at tx i v (by rw [Array.getElem?_toList]; exact q)
    refine walk_tx ((Walks.list hid _ p pne us).toS) st.heap.objs.size out xs len (len ▸ hN) val (us.size - 0) 0 _ (by omega) (Nat.zero_le _) ⟨⟨_, Heap.get?_push_size _ rfl, rfl, rfl⟩, lp.push _⟩ ?_ fun s3 mv SO => ?_
    · refine SetOf_congr ((setObjOf_fresh (knd := PySem.strKind PG ww) led).setOf (Heap.get?_push_of_some _ nw) (by unfold scanBound; omega)) (fun _ => rfl) rfl
    · obtain ⟨h2, gn, dr, tk, os⟩ := s3
      obtain rfl : gn = st.gens := mv.gens
      obtain rfl : dr = st.drawn := mv.drawn
      obtain rfl : os = st.os := mv.os
      refine wpAny_pure (wpAny_pure ⟨rfl, h2, tk, rfl, SO, fun b o hb e => ?_⟩)
      refine mv.heap b o ?_ (Heap.get?_push_of_some _ (Heap.get?_push_of_some _ e))
      rw [List.mem_cons, List.mem_singleton, sz]
      exact fun q => q.elim (fun q => Nat.ne_of_lt hb q) fun q => Nat.ne_of_lt (Nat.lt_succ_of_lt hb) q
  · rcases r2 with e | fl
    · exact hr2
    rcases fl with _ | _ | _ | v
    all_goals first | exact hr2.elim | skip
    obtain ⟨rfl, h2, tk, rfl, SO, keep⟩ := hr2
    all_goals repeat' first | assumption | wp_step
    exact h _ _ SO keep
end
end TxS
namespace L2
open PySem PyProof.Rows
open PySem.Spec
section
variable {X : Cx}
/-- len(set(xs)) of a list of texts: how many different ones -/
def tLenTx (K : PySem.W.Frag) (ta : TE) : TE := fun σ H Q => ta σ H fun v H1 => ∃ (p : Addr) (xs : List Str), v = V.ref p ∧ SqL K H1 p (xs.map V.str) ∧ xs.length ≤ 4000 ∧ Q (.int (TxS.ct xs.reverse : Nat)) H1
theorem pe_lenTx {a : Expr} {ta : TE} {p p2 q pos : Pos} (g1 : Gl X "len") (m1 : X.mg "len" = none) (g2 : Gl X "set") (m2 : X.mg "set" = none) (ha : PE X a ta) (calm : X.calm = true := by rfl)
    (na : starEach [a] X.env = (false, eval a X.env) :: starEach [] X.env := by rfl) : PE X (.Call (.Name "len" p) [.Call (.Name "set" p2) [a] [] q] [] pos) (tLenTx X.K ta) := by
  refine ⟨fun pins s σ H Q I h => Call_ (ld_blt I g1 m1 boot_len (callWith_builtin1 (args_cons ?_ rfl) rfl rfl))⟩
  refine Call_ (ld_blt I g2 m2 boot_set (callWith_type1 (args_cons (thn (ha.run pins s σ H _ I h) fun v s1 w => args_nil ?_) na) na rfl))
  obtain ⟨x, H1, I1, r1, l, xs, rfl, at_l, few, k⟩ := w
  cases r1
  obtain ⟨us, r, pl, _⟩ := I1.list at_l
  have sz : us.toArray.size = xs.length := by rw [List.size_toArray, ← r.length, List.length_map]
  refine TxS.set_of_texts (I1.ok.hd calm) pl.isList (by simpa using strsAre_of r) few fun h2 tk SO keep => args_nil ?_
  rw [sz, List.take_length] at SO
  obtain ⟨o, es, ep, t, ho, hx, hd, _, _, _, hf, hn⟩ := SO
  have I2 : Inv X pins σ H1 { s1 with heap := h2, toks := tk } := I1.kept fun b o e => keep b o (Heap.lt_size e) e
  have le := TxS.ct_le xs.reverse
  rw [List.length_reverse] at le
  exact call_len_set ho hx hd hf (by rw [hn] <;> omega) ⟨.int (TxS.ct xs.reverse : Nat), H1, I2.tok _, ⟨_, by rw [hn]⟩, k⟩
end
end L2

set_option Elab.async false
set_option linter.all false
set_option maxRecDepth 100000
set_option maxHeartbeats 4000000
namespace Vl
open PySem PySem.Spec PyProof.Rows L2
theorem Same.upd {H H1 : Hp} {p : Addr} {o : HO} (k : Same H H1) (hp : H1 p = none) : Same H (L2.upd H1 p o) := fun b u e => (upd_ne (ne_of_none (k b u e) hp)).trans (k b u e)
theorem sm_upd {H : Hp} {p : Addr} {o : HO} (hp : H p = none) : Same H (upd H p o) := Same.upd (Same.refl H) hp
theorem iteC {c : Bool} {A B : Prop} (e : c = true) (h : A) : if c = true then A else B := by rw [if_pos e]; exact h
theorem iteN {c : Bool} {A B : Prop} (e : c = false) (h : B) : if c = true then A else B := by rw [if_neg (by rw [e]; exact Bool.false_ne_true)]; exact h
/-- a def of the top with its promise -/
structure Def (P : Program) (w : World) (K : PySem.W.Frag) (mg : Str → Option Value) (base : Heap) (k : Nat) (x : Str) (f : Addr) (fd : FuncData) (ps : List Str) (sp : Sp) : Prop where
  ok : FnOk P w K mg base CX0 k f fd ps sp
  g : mg x = some (.ref f)
  kp : PySem.W.keepIn K (.ref f) = true
  b : Binds K fd ps []
end Vl

set_option Elab.async false
set_option linter.all false
set_option maxRecDepth 100000
set_option maxHeartbeats 4000000
/-! list(zip(a, b)), a and b two tuples or two lists: a new list of new pairs -/
namespace Lz
open PySem PySem.Spec PyProof.Rows L2 PySem.W
section
variable {prog : Program} {w : World} {A : Around} {E : Value → Shared → Prop} {s : Shared} {z TI TO i1 i2 : Addr} {fp1 fp2 : List Addr} {n1 n2 i : Nat} {P1 P2 : Nat → Value → Prop} {St1 St2 : Nat → Heap → Prop}
theorem held_item {T : Addr} {f : Bool} {oT : Obj} {Q : Value → Shared → Prop} (S : ZipSep2 z TI TO i1 i2 fp1 fp2) (D1 : Draws prog w A i1 fp1 n1 P1 St1) (D2 : Draws prog w A i2 fp2 n2 P2 St2)
    (hz : IsZipHeld s.heap z TI TO T f) (hT : s.heap.get? T = some oT) (hTI : IsTupOf2 s.heap TI (.ref i1) (.ref i2)) (st1 : St1 i s.heap) (st2 : St2 i s.heap) (l1 : i < n1) (l2 : i < n2)
    (hQ : ∀ x1 x2 h' tk, P1 i x1 → P2 i x2 → IsZipHeld h' z TI TO T true → St1 (i + 1) h' → St2 (i + 1) h' → IsTupOf2 h' s.heap.objs.size x1 x2 → h'.objs.size = s.heap.objs.size + 1 →
      (∀ c o, c ≠ z ∧ c ≠ i1 ∧ c ≠ i2 → s.heap.get? c = some o → h'.get? c = some o) → Q (.ref s.heap.objs.size) { s with heap := h', toks := tk }) :
    wpAny (model prog w) A (Builtin.«zip.__next__» ⟨[.ref z], []⟩) (fun fin s' => ∃ v, fin = .done (.ret v) ∧ Q v s') E s := by
  obtain ⟨hp, g, d, tk0, os⟩ := s
  (show wpAny _ _ (field (.ref z) 2 >>= _) _ _ _); refine wpAny_bind (wpAny_field hz rfl (x := .bool false) rfl ?_)
  (show wpAny _ _ (field (.ref z) 3 >>= _) _ _ _); refine wpAny_bind (wpAny_field hz rfl (x := .ref TI) rfl (wpAny_bind (wpAny_seqItems hTI rfl ?_)))
  (show wpAny _ _ (Builtin.SmallTypes.ownedTupleIsFree (.ref z) >>= _) _ _ _); refine wpAny_bind (wpAny_tupleHeld_zip hz hT fun g1 hz1 hs1 => ?_)
  replace hs1 : Heap.SameBut z hp g1 := hs1
  simp only [Bool.false_eq_true, if_false]; refine wpAny_bind ?_
  rw [← Array.forIn_toList]; simp only [List.forIn_cons, List.forIn_nil]
  refine wpAny_bind (wpAny_bind (wpAny_holding ?_)); (show wpAny _ _ (Builtin.SmallTypes.nextOf (.ref i1) >>= _) _ _ ⟨g1, g, d, tk0, os⟩)
  refine wpAny_bind (D1.item i _ _ _ l1 (D1.over st1 hs1 S.zf1) fun x1 p1 tk1 hx1 sn1 hp1 => wpAny_pure (wpAny_pure ?_))
  replace hp1 : Heap.SameBut i1 g1 p1 := hp1
  refine wpAny_bind (wpAny_bind (wpAny_holding ?_)); (show wpAny _ _ (Builtin.SmallTypes.nextOf (.ref i2) >>= _) _ _ ⟨p1, g, d, tk1, os⟩)
  refine wpAny_bind (D2.item i _ _ _ l2 (D2.over (D2.over st2 hs1 S.zf2) hp1 S.sep1_2) fun x2 p2 tk2 hx2 sn2 hp2 => wpAny_pure (wpAny_pure (wpAny_pure ?_)))
  replace hp2 : Heap.SameBut i2 p1 p2 := hp2
  (show wpAny _ _ (newTuple [x1, x2] >>= _) _ _ ⟨p2, g, d, tk2, os⟩); refine wpAny_bind (wpAny_newTuple ?_)
  have hsz : p2.objs.size = hp.objs.size := by rw [hp2.1, hp1.1, hs1.1]
  have hz2 : IsZipHeld p2 z TI TO T true := hp2.extBut _ _ S.zi2 (hp1.extBut _ _ S.zi1 hz1)
  have kk : ∀ c o, c ≠ z ∧ c ≠ i1 ∧ c ≠ i2 → hp.get? c = some o → p2.get? c = some o := fun c o ⟨c1, c2, c3⟩ e => hp2.extBut _ _ c3 (hp1.extBut _ _ c2 (hs1.extBut _ _ c1 e))
  have s1' : St1 (i + 1) p2 := D1.over sn1 hp2 S.sep2_1
  refine wpAny_pure ⟨_, rfl, ?_⟩
  show Q (.ref p2.objs.size) ⟨p2.push { cls := .type "tuple", data := .seq #[x1, x2] }, g, d, tk2, os⟩
  have hpp : IsTupOf2 (p2.push { cls := .type "tuple", data := .seq #[x1, x2] }) p2.objs.size x1 x2 := Heap.get?_push_size _ rfl
  have hz4 : (p2.push { cls := .type "tuple", data := .seq #[x1, x2] }).objs.size = p2.objs.size + 1 := Heap.size_push ..
  rw [hsz] at hpp hz4 ⊢
  exact hQ x1 x2 _ tk2 hx1 hx2 (Heap.get?_push_of_some _ hz2) (D1.frame _ _ _ s1' fun b _ o e => Heap.get?_push_of_some _ e) (D2.frame _ _ _ sn2 fun b _ o e => Heap.get?_push_of_some _ e) hpp hz4 fun c o q e => Heap.get?_push_of_some _ (kk c o q e)
theorem held_end {T : Addr} {f : Bool} {oT : Obj} {Q : Fin → Shared → Prop} (S : ZipSep2 z TI TO i1 i2 fp1 fp2) (D1 : Draws prog w A i1 fp1 n1 P1 St1) (D2 : Draws prog w A i2 fp2 n2 P2 St2)
    (hz : IsZipHeld s.heap z TI TO T f) (hT : s.heap.get? T = some oT) (hTI : IsTupOf2 s.heap TI (.ref i1) (.ref i2)) (st1 : St1 i s.heap) (st2 : St2 i s.heap) (hle1 : i ≤ n1) (hle2 : i ≤ n2) (hend : i = n1 ∨ i = n2)
    (hE : ∀ h' tk e, (∀ c o, c ≠ z ∧ c ≠ i1 ∧ c ≠ i2 → s.heap.get? c = some o → h'.get? c = some o) → (∃ o, h'.get? e = some o ∧ o.cls = .type "StopIteration") → E (.ref e) { s with heap := h', toks := tk }) :
    wpAny (model prog w) A (Builtin.«zip.__next__» ⟨[.ref z], []⟩) Q E s := by
  obtain ⟨hp, g, d, tk0, os⟩ := s
  (show wpAny _ _ (field (.ref z) 2 >>= _) _ _ _); refine wpAny_bind (wpAny_field hz rfl (x := .bool false) rfl ?_)
  (show wpAny _ _ (field (.ref z) 3 >>= _) _ _ _); refine wpAny_bind (wpAny_field hz rfl (x := .ref TI) rfl (wpAny_bind (wpAny_seqItems hTI rfl ?_)))
  (show wpAny _ _ (Builtin.SmallTypes.ownedTupleIsFree (.ref z) >>= _) _ _ _); refine wpAny_bind (wpAny_tupleHeld_zip hz hT fun g1 hz1 hs1 => ?_)
  replace hs1 : Heap.SameBut z hp g1 := hs1
  simp only [Bool.false_eq_true, if_false]; refine wpAny_bind ?_
  rw [← Array.forIn_toList]; simp only [List.forIn_cons, List.forIn_nil]
  refine wpAny_bind (wpAny_bind (wpAny_holding ?_)); (show wpAny _ _ (Builtin.SmallTypes.nextOf (.ref i1) >>= _) _ _ ⟨g1, g, d, tk0, os⟩)
  by_cases h1 : i < n1
  · refine wpAny_bind (D1.item i _ _ _ h1 (D1.over st1 hs1 S.zf1) fun x1 p1 tk1 hx1 sn1 hp1 => wpAny_pure (wpAny_pure ?_))
    replace hp1 : Heap.SameBut i1 g1 p1 := hp1
    have e2 : i = n2 := by omega
    refine wpAny_bind (wpAny_bind (wpAny_holding ?_)); (show wpAny _ _ (Builtin.SmallTypes.nextOf (.ref i2) >>= _) _ _ ⟨p1, g, d, tk1, os⟩)
    refine wpAny_bind (D2.done ⟨p1, g, d, tk1, os⟩ _ _ (by rw [← e2]; exact D2.over (D2.over st2 hs1 S.zf2) hp1 S.sep1_2) fun q e hq he => ?_)
    exact hE q tk1 e (fun c o ⟨c1, c2, c3⟩ x => hq _ _ c3 (hp1.extBut _ _ c2 (hs1.extBut _ _ c1 x))) he
  · have e1 : i = n1 := by omega
    refine wpAny_bind (D1.done ⟨g1, g, d, tk0, os⟩ _ _ (by rw [← e1]; exact D1.over st1 hs1 S.zf1) fun q e hq he => ?_)
    exact hE q tk0 e (fun c o ⟨c1, c2, c3⟩ x => hq _ _ c2 (hs1.extBut _ _ c1 x)) he
theorem pyNext_held_item {T : Addr} {f : Bool} {oT : Obj} {Q : Option Value → Shared → Prop} (S : ZipSep2 z TI TO i1 i2 fp1 fp2) (D1 : Draws prog w A.in1 i1 fp1 n1 P1 St1) (D2 : Draws prog w A.in1 i2 fp2 n2 P2 St2)
    (hz : IsZipHeld s.heap z TI TO T f) (hT : s.heap.get? T = some oT) (hTI : IsTupOf2 s.heap TI (.ref i1) (.ref i2)) (st1 : St1 i s.heap) (st2 : St2 i s.heap) (l1 : i < n1) (l2 : i < n2)
    (hQ : ∀ x1 x2 h' tk, P1 i x1 → P2 i x2 → IsZipHeld h' z TI TO T true → St1 (i + 1) h' → St2 (i + 1) h' → IsTupOf2 h' s.heap.objs.size x1 x2 → h'.objs.size = s.heap.objs.size + 1 →
      (∀ c o, c ≠ z ∧ c ≠ i1 ∧ c ≠ i2 → s.heap.get? c = some o → h'.get? c = some o) → Q (some (.ref s.heap.objs.size)) { s with heap := h', toks := tk }) :
    wpAny (model prog w) A (pyNext (.ref z)) Q E s := by
  have ty : s.TypeIs (.ref z) "zip" := ⟨_, hz, rfl⟩
  unfold pyNext
  exact wpAny_bind (wpAny_attempt (wpAny_callSpecial?_slot (name := Str.ofString "__next__") ty F.slot_zip_next (wpAny_call_entry F.slot_zip_next ty F.entry_zip_next
    (held_item S D1 D2 hz hT hTI st1 st2 l1 l2 fun x1 x2 h' tk a b c d e f g k => wpAny_pure (hQ x1 x2 h' tk a b c d e f g k)) (F.args_zip_next_1 _))))
theorem pyNext_held_end {T : Addr} {f : Bool} {oT : Obj} {Q : Option Value → Shared → Prop} (S : ZipSep2 z TI TO i1 i2 fp1 fp2) (D1 : Draws prog w A.in1 i1 fp1 n1 P1 St1) (D2 : Draws prog w A.in1 i2 fp2 n2 P2 St2)
    (hz : IsZipHeld s.heap z TI TO T f) (hT : s.heap.get? T = some oT) (hTI : IsTupOf2 s.heap TI (.ref i1) (.ref i2)) (st1 : St1 i s.heap) (st2 : St2 i s.heap) (hle1 : i ≤ n1) (hle2 : i ≤ n2) (hend : i = n1 ∨ i = n2)
    (hQ : ∀ h' tk, (∀ c o, c ≠ z ∧ c ≠ i1 ∧ c ≠ i2 → s.heap.get? c = some o → h'.get? c = some o) → Q none { s with heap := h', toks := tk }) : wpAny (model prog w) A (pyNext (.ref z)) Q E s := by
  have ty : s.TypeIs (.ref z) "zip" := ⟨_, hz, rfl⟩
  unfold pyNext
  refine wpAny_bind (wpAny_attempt (wpAny_callSpecial?_slot (name := Str.ofString "__next__") ty F.slot_zip_next (wpAny_call_entry F.slot_zip_next ty F.entry_zip_next
    (held_end S D1 D2 hz hT hTI st1 st2 hle1 hle2 hend fun h' tk e hk he => ?_) (F.args_zip_next_1 _))))
  obtain ⟨o, ho, hc⟩ := he
  exact wpAny_bind (wpAny_isInstance (T := "StopIteration") (b := true) ⟨o, ho, hc⟩ isSubtype_stop (wpAny_pure (hQ _ _ hk)))

/-- the zip at z behind i turns whose pairs are all held; S the list that is filled -/
def ZSt (z TI TO i1 i2 S : Addr) (St1 St2 : Nat → Heap → Prop) (i : Nat) (h : Heap) : Prop := IsTupOf2 h TI (.ref i1) (.ref i2) ∧ St1 i h ∧ St2 i h ∧
  ((IsZip h z TI TO .none ∧ ∃ a b, IsTupOf2 h TO a b) ∨ ∃ T f oT, IsZipHeld h z TI TO T f ∧ h.get? T = some oT ∧ T ≠ z ∧ T ≠ i1 ∧ T ≠ i2 ∧ T ≠ S)
structure Sep (z TI TO i1 i2 S : Addr) (fp1 fp2 : List Addr) : Prop where
  z : z ≠ S
  TI : TI ≠ S
  TO : TO ≠ S
  f1 : S ∉ fp1
  f2 : S ∉ fp2
theorem ZSt.keep {S : Addr} {h h' : Heap} (D1 : Draws prog w A i1 fp1 n1 P1 St1) (D2 : Draws prog w A i2 fp2 n2 P2 St2) (sp : Sep z TI TO i1 i2 S fp1 fp2) (x : ZSt z TI TO i1 i2 S St1 St2 i h) (hk : ∀ b o, b ≠ S → h.get? b = some o → h'.get? b = some o) : ZSt z TI TO i1 i2 S St1 St2 i h' := by
  obtain ⟨a1, a2, a3, a4⟩ := x
  refine ⟨hk _ _ sp.TI a1, D1.frame _ _ _ a2 fun b hb o e => hk b o (fun q => sp.f1 (q ▸ hb)) e, D2.frame _ _ _ a3 fun b hb o e => hk b o (fun q => sp.f2 (q ▸ hb)) e, ?_⟩
  rcases a4 with ⟨hz, a, b, hO⟩ | ⟨T, f, oT, hz, hT, r1, r2, r3, r4⟩
  · exact .inl ⟨hk _ _ sp.z hz, a, b, hk _ _ sp.TO hO⟩
  · exact .inr ⟨T, f, oT, hk _ _ sp.z hz, hk _ _ r4 hT, r1, r2, r3, r4⟩
theorem ZSt.item {S : Addr} {Q : Option Value → Shared → Prop} (sz : ZipSep2 z TI TO i1 i2 fp1 fp2) (D1 : Draws prog w A.in1 i1 fp1 n1 P1 St1) (D2 : Draws prog w A.in1 i2 fp2 n2 P2 St2) (x : ZSt z TI TO i1 i2 S St1 St2 i s.heap) (hS : S < s.heap.objs.size) (l1 : i < n1) (l2 : i < n2)
    (hQ : ∀ x1 x2 h' tk, P1 i x1 → P2 i x2 → ZSt z TI TO i1 i2 S St1 St2 (i + 1) h' → IsTupOf2 h' s.heap.objs.size x1 x2 → h'.objs.size = s.heap.objs.size + 1 →
      (∀ c o, c ≠ z ∧ c ≠ i1 ∧ c ≠ i2 ∧ c ≠ TO → s.heap.get? c = some o → h'.get? c = some o) → Q (some (.ref s.heap.objs.size)) { s with heap := h', toks := tk }) :
    wpAny (model prog w) A (pyNext (.ref z)) Q E s := by
  obtain ⟨a1, a2, a3, a4⟩ := x
  have lt : ∀ {c o}, s.heap.get? c = some o → s.heap.objs.size ≠ c := fun e => Nat.ne_of_gt (Heap.lt_size e)
  have m1 : s.heap.objs.size ≠ i1 := let ⟨_, e⟩ := D1.live _ _ a2; lt e
  have m2 : s.heap.objs.size ≠ i2 := let ⟨_, e⟩ := D2.live _ _ a3; lt e
  rcases a4 with ⟨hz, a, b, hO⟩ | ⟨T, f, oT, hz, hT, r1, r2, r3, r4⟩
  · refine wpAny_pyNext_zipD2_item sz D1 D2 hz a1 hO a2 a3 l1 l2 fun x1 x2 h' tk p1 p2 hz' hO' t1 t2 hN sN hk => hQ x1 x2 h' tk p1 p2 ⟨hk _ _ sz.TIz sz.TITO sz.TIi1 sz.TIi2 a1, t1, t2, .inr ⟨_, false, _, hz', hN, lt hz, m1, m2, Nat.ne_of_gt hS⟩⟩ hN sN fun c o ⟨c1, c2, c3, c4⟩ e => hk c o c1 c4 c2 c3 e
  · refine pyNext_held_item sz D1 D2 hz hT a1 a2 a3 l1 l2 fun x1 x2 h' tk p1 p2 hz' t1 t2 hN sN hk => hQ x1 x2 h' tk p1 p2 ⟨hk _ _ ⟨sz.TIz, sz.TIi1, sz.TIi2⟩ a1, t1, t2, .inr ⟨T, true, oT, hz', hk _ _ ⟨r1, r2, r3⟩ hT, r1, r2, r3, r4⟩⟩ hN sN fun c o ⟨c1, c2, c3, _⟩ e => hk c o ⟨c1, c2, c3⟩ e
theorem ZSt.done {S : Addr} {Q : Option Value → Shared → Prop} (sz : ZipSep2 z TI TO i1 i2 fp1 fp2) (D1 : Draws prog w A.in1 i1 fp1 n1 P1 St1) (D2 : Draws prog w A.in1 i2 fp2 n2 P2 St2) (x : ZSt z TI TO i1 i2 S St1 St2 i s.heap) (hle1 : i ≤ n1) (hle2 : i ≤ n2) (hend : i = n1 ∨ i = n2)
    (hQ : ∀ h' tk, (∀ c o, c ≠ z ∧ c ≠ i1 ∧ c ≠ i2 ∧ c ≠ TO → s.heap.get? c = some o → h'.get? c = some o) → Q none { s with heap := h', toks := tk }) : wpAny (model prog w) A (pyNext (.ref z)) Q E s := by
  obtain ⟨a1, a2, a3, a4⟩ := x
  rcases a4 with ⟨hz, a, b, hO⟩ | ⟨T, f, oT, hz, hT, r1, r2, r3, r4⟩
  · exact wpAny_pyNext_zipD2_end sz D1 D2 hz a1 hO a2 a3 hle1 hle2 hend fun h' tk hk => hQ h' tk fun c o ⟨c1, c2, c3, c4⟩ e => hk c o c1 c4 c2 c3 e
  · exact pyNext_held_end sz D1 D2 hz hT a1 a2 a3 hle1 hle2 hend fun h' tk hk => hQ h' tk fun c o ⟨c1, c2, c3, _⟩ e => hk c o ⟨c1, c2, c3⟩ e
end
/-- the pairs that were made, at as, all above lo -/
structure Made (P1 P2 : Nat → Value → Prop) (lo : Addr) (h : Heap) (as : List Addr) : Prop where
  rise : as.Pairwise (· < ·)
  above : ∀ a ∈ as, lo < a
  pairs : ∀ (j : Nat) (a : Addr), as[j]? = some a → ∃ x y, P1 j x ∧ P2 j y ∧ IsTupOf2 h a x y
theorem Made.there {P1 P2 : Nat → Value → Prop} {lo : Addr} {h : Heap} {as : List Addr} (g : Made P1 P2 lo h as) {a : Addr} (ha : a ∈ as) : a < h.objs.size := by
  obtain ⟨j, hj⟩ := List.mem_iff_getElem?.mp ha
  obtain ⟨_, _, _, _, e⟩ := g.pairs j a hj
  exact Heap.lt_size e
section
variable {prog : Program} {w : World} {A : Around} {s : Shared} {R : Result → Shared → Prop} {z TI TO i1 i2 S : Addr} {fp1 fp2 : List Addr} {n1 n2 : Nat} {P1 P2 : Nat → Value → Prop} {St1 St2 : Nat → Heap → Prop}
theorem zl_loop {n : Nat} (en : n = min n1 n2) (sz : ZipSep2 z TI TO i1 i2 fp1 fp2) (sp : Sep z TI TO i1 i2 S fp1 fp2) (D1 : Draws prog w A.in1.in1 i1 fp1 n1 P1 St1) (D2 : Draws prog w A.in1.in1 i2 fp2 n2 P2 St2) (lz : z < S) (lT : TO < S) (li1 : i1 < S) (li2 : i2 < S) (hn : n ≤ sizeLine) (res : Value) {h₁ : Heap}
    (hR : ∀ h' tk acc c as, (∀ b o, b ≠ S ∧ b ≠ z ∧ b ≠ i1 ∧ b ≠ i2 ∧ b ≠ TO → h₁.get? b = some o → h'.get? b = some o) → h'.get? S = some { cls := .type "list", dict := none, data := .seq acc c, slots := #[] } → as.length = n → Made P1 P2 S h' as →
      acc.toList = as.map Value.ref → R (.ok (.ret res)) { s with heap := h', toks := tk }) :
    ∀ (k i : Nat) (h : Heap) (tk c : Nat) (acc : Array Value) (as : List Addr), n - i = k → i ≤ n → ZSt z TI TO i1 i2 S St1 St2 i h → (∀ b o, b ≠ S ∧ b ≠ z ∧ b ≠ i1 ∧ b ≠ i2 ∧ b ≠ TO → h₁.get? b = some o → h.get? b = some o) →
      h.get? S = some { cls := .type "list", dict := none, data := .seq acc c, slots := #[] } → acc.toList = as.map Value.ref → as.length = i → Made P1 P2 S h as →
      codeAny (model prog w) A (.builtin "list.extend.loop" ⟨[.ref S, .ref z, res], []⟩) R { s with heap := h, toks := tk } := by
  have n1' : S ≠ z ∧ S ≠ i1 ∧ S ≠ i2 ∧ S ≠ TO := ⟨Nat.ne_of_gt lz, Nat.ne_of_gt li1, Nat.ne_of_gt li2, Nat.ne_of_gt lT⟩
  have hi : ∀ a, S < a → a ≠ z ∧ a ≠ i1 ∧ a ≠ i2 ∧ a ≠ TO := fun a ha => ⟨Nat.ne_of_gt (Nat.lt_trans lz ha), Nat.ne_of_gt (Nat.lt_trans li1 ha), Nat.ne_of_gt (Nat.lt_trans li2 ha), Nat.ne_of_gt (Nat.lt_trans lT ha)⟩
  intro k
  induction k with
  | zero =>
    intro i h tk c acc as hk hin hst hkeep hS hacc hal hG
    have e : i = n := by omega
    refine codeAny_builtin PySem.F.entry_extend_loop ?_
    rw [Around.under_plainId PySem.F.plain_extend_loop _]; (show wpAny _ A.in1 (pyNext (.ref z) >>= _) _ _ _)
    refine wpAny_bind (ZSt.done (s := { s with heap := h, toks := tk }) (A := A.in1) sz D1 D2 hst (by omega) (by omega) (by omega) fun h' tk' hk' => wpAny_pure (hR h' tk' acc c as (fun b o ⟨q1, q2⟩ e => hk' b o q2 (hkeep b o ⟨q1, q2⟩ e)) (hk' S _ n1' hS) (by omega) ⟨hG.rise, hG.above, fun j a hj => ?_⟩ hacc))
    obtain ⟨x, y, e1, e2, e3⟩ := hG.pairs j a hj
    exact ⟨x, y, e1, e2, hk' a _ (hi a (hG.above a (List.mem_of_getElem? hj))) e3⟩
  | succ k ih =>
    intro i h tk c acc as hk hin hst hkeep hS hacc hal hG
    have lt : i < n := by omega
    have hsz : acc.size = i := by rw [← Array.length_toList, hacc, List.length_map, hal]
    refine codeAny_builtin PySem.F.entry_extend_loop ?_
    rw [Around.under_plainId PySem.F.plain_extend_loop _]; (show wpAny _ A.in1 (pyNext (.ref z) >>= _) _ _ _)
    refine wpAny_bind (ZSt.item (s := { s with heap := h, toks := tk }) (A := A.in1) sz D1 D2 hst (Heap.lt_size hS) (by omega) (by omega) fun x1 x2 h' tk' p1 p2 hst' hN sN hkp => ?_)
    dsimp only at hN sN hkp ⊢
    have hS' := hkp S _ n1' hS
    have up : ∀ b o, b ≠ S → h'.get? b = some o → (h'.update S (Obj.mapSeq (·.push (Value.ref h.objs.size)))).get? b = some o := fun b o hb e => (Heap.get?_update_other _ _ (Ne.symm hb)).trans e
    have hSl : S < h.objs.size := Heap.lt_size hS
    (show wpAny _ A.in1 (updateSeq S (·.push (Value.ref h.objs.size)) >>= _) _ _ _); refine wpAny_bind ?_
    refine wpAny_updateSeq hS' rfl (wpAny_pure ⟨plainId_quiet PySem.F.plain_extend_loop _, ih (i + 1) _ tk' _ (acc.push (Value.ref h.objs.size)) (as ++ [h.objs.size]) (by omega) lt (hst'.keep D1 D2 sp up)
      (fun b o q e => up b o q.1 (hkp b o q.2 (hkeep b o q e))) (Heap.get?_update_self _ hS' rfl) (by rw [Array.toList_push, hacc, List.map_append]; rfl) (by rw [List.length_append, hal]; rfl) ⟨?_, ?_, ?_⟩⟩) (by rw [hsz]; omega) (by show (acc.push (Value.ref h.objs.size)).size ≤ sizeLine + 1; rw [Array.size_push, hsz]; omega)
    · refine List.pairwise_append.mpr ⟨hG.rise, List.pairwise_singleton _ _, fun a ha b hb => ?_⟩
      rw [List.mem_singleton.mp hb]; exact hG.there ha
    · intro a ha
      rcases List.mem_append.mp ha with ha | ha
      · exact hG.above a ha
      · rw [List.mem_singleton.mp ha]; exact hSl
    · intro j b hj
      rcases Nat.lt_trichotomy j as.length with q | q | q
      · rw [List.getElem?_append_left q] at hj
        obtain ⟨x, y, e1, e2, e3⟩ := hG.pairs j b hj
        have hb := hG.above b (List.mem_of_getElem? hj)
        exact ⟨x, y, e1, e2, up b _ (Nat.ne_of_gt hb) (hkp b _ (hi b hb) e3)⟩
      · subst q
        have hb : h.objs.size = b := by simpa using hj
        subst hb
        exact ⟨x1, x2, by rw [hal]; exact p1, by rw [hal]; exact p2, up _ _ (Nat.ne_of_gt hSl) hN⟩
      · have no : (as ++ [h.objs.size])[j]? = none := List.getElem?_eq_none (by rw [List.length_append, List.length_singleton]; omega)
        rw [no] at hj; cases hj
end
end Lz

set_option Elab.async false
set_option linter.all false
set_option maxRecDepth 100000
set_option maxHeartbeats 4000000
namespace Lz
open PySem PySem.Spec PyProof.Rows L2 PySem.W
theorem zip_no_len : typeLookup (.type "zip") "__len__" = pure none := am_miss_of_fast (by decide +kernel)
theorem zip_no_hint : typeLookup (.type "zip") "__length_hint__" = pure none := am_miss_of_fast (by decide +kernel)
section
variable {prog : Program} {w : World} {A : Around} {E : Value → Shared → Prop} {s : Shared} {R : Result → Shared → Prop} {z TI TO i1 i2 S : Addr} {fp1 fp2 : List Addr} {n n1 n2 : Nat} {P1 P2 : Nat → Value → Prop} {St1 St2 : Nat → Heap → Prop}
theorem zl_hint (hT : s.TypeIs (.ref z) "zip") {Q : Bool → Shared → Prop} (h : Q true s) : wpAny (model prog w) A (Builtin.List.listLengthHint (.ref z)) Q E s := by
  unfold Builtin.List.listLengthHint
  refine wpAny_bind (wpAny_specialOf hT zip_no_len ?_)
  exact wpAny_bind (wpAny_specialOf hT zip_no_hint (wpAny_pure h))
/-- what a list that is filled by the zip asks and gives -/
theorem zl_extend (en : n = min n1 n2) (sz : ZipSep2 z TI TO i1 i2 fp1 fp2) (sp : Sep z TI TO i1 i2 S fp1 fp2) (D1 : Draws prog w A.in1.in1 i1 fp1 n1 P1 St1) (D2 : Draws prog w A.in1.in1 i2 fp2 n2 P2 St2) (lz : z < S) (lT : TO < S) (li1 : i1 < S) (li2 : i2 < S) (hn : n ≤ sizeLine) (res : Value) (c₀ : Nat)
    (hz : IsZip s.heap z TI TO .none) (hst : ZSt z TI TO i1 i2 S St1 St2 0 s.heap) (hS : s.heap.get? S = some { cls := .type "list", data := .seq #[] c₀ })
    (hR : ∀ h' tk acc c as, (∀ b o, b ≠ S ∧ b ≠ z ∧ b ≠ i1 ∧ b ≠ i2 ∧ b ≠ TO → s.heap.get? b = some o → h'.get? b = some o) → h'.get? S = some { cls := .type "list", dict := none, data := .seq acc c, slots := #[] } → as.length = n → Made P1 P2 S h' as →
      acc.toList = as.map Value.ref → R (.ok (.ret res)) { s with heap := h', toks := tk }) :
    wpAny (model prog w) A.in1 (Builtin.List.listExtendWith (.ref S) (.ref z) res)
      (fun fin s' => match fin with | .done f => R (.ok f) s' | .again c' => c'.quiet = true ∧ codeAny (model prog w) A c' R s') (fun e s' => R (.error e) s') s := by
  have nSz : S ≠ z := Nat.ne_of_gt lz
  have key : ∀ (h : Heap) (c₁ tk : Nat), (∀ b o, b ≠ S → s.heap.get? b = some o → h.get? b = some o) → h.get? S = some { cls := .type "list", data := .seq #[] c₁ } →
      codeAny (model prog w) A (.builtin "list.extend.loop" ⟨[.ref S, .ref z, res], []⟩) R { s with heap := h, toks := tk } := fun h c₁ tk hk hS₁ =>
    zl_loop (s := s) (h₁ := s.heap) en sz sp D1 D2 lz lT li1 li2 hn res hR n 0 h tk c₁ #[] [] (Nat.sub_zero _) (Nat.zero_le _) (hst.keep D1 D2 sp hk) (fun b o q e => hk b o q.1 e) hS₁ rfl rfl ⟨List.Pairwise.nil, (fun _ ha => nomatch ha), (fun j a hj => by simp at hj)⟩
  unfold Builtin.List.listExtendWith
  have hT : s.TypeIs (.ref z) "zip" := ⟨_, hz, rfl⟩
  refine wpAny_bind (wpAny_typeOf (T := "zip") hT ?_)
  have q1 : Builtin.List.listSameRef (.ref S) (.ref z) = false := by simp [Builtin.List.listSameRef, nSz]
  have q2 : (Value.type "zip" == Value.type "list") = false := by decide
  have q3 : (Value.type "zip" == Value.type "tuple") = false := by decide
  simp only [q1, q2, q3, Bool.or_false, Bool.false_eq_true, if_false]
  refine wpAny_bind (wpAny_pyIter_zip hz ?_)
  refine wpAny_bind (wpAny_holding (zl_hint hT ?_))
  refine wpAny_ite_split (fun _ => ?_) (fun _ => wpAny_pure ⟨plainId_quiet PySem.F.plain_extend_loop _, key _ c₀ _ (fun b o _ e => e) hS⟩)
  refine wpAny_bind (wpAny_rule (wpAny_bind ?_)); (show wpAny _ _ (updateSeq S (·.push .none) >>= fun _ => updateSeq S (·.pop)) _ _ _)
  refine wpAny_bind (wpAny_updateSeq hS rfl ?_)
  have hS₂ := Heap.get?_update_self (Obj.mapSeq (·.push Value.none)) hS rfl
  refine wpAny_updateSeq (hz := by seq_fits) hS₂ rfl ?_
  have hS₃ := Heap.get?_update_self (Obj.mapSeq (·.pop)) hS₂ rfl
  exact wpAny_pure ⟨plainId_quiet PySem.F.plain_extend_loop _, key _ _ _ (fun b o hb e => (Heap.get?_update_other _ _ (Ne.symm hb)).trans ((Heap.get?_update_other _ _ (Ne.symm hb)).trans e)) hS₃⟩
theorem zl_init (en : n = min n1 n2) (sz : ZipSep2 z TI TO i1 i2 fp1 fp2) (sp : Sep z TI TO i1 i2 S fp1 fp2) (D1 : Draws prog w A.in1.in1 i1 fp1 n1 P1 St1) (D2 : Draws prog w A.in1.in1 i2 fp2 n2 P2 St2) (lz : z < S) (lT : TO < S) (li1 : i1 < S) (li2 : i2 < S) (hn : n ≤ sizeLine)
    (hz : IsZip s.heap z TI TO .none) (hst : ZSt z TI TO i1 i2 S St1 St2 0 s.heap) (hS : s.heap.get? S = some { cls := .type "list", data := .seq #[] })
    (hR : ∀ h' tk acc c as, (∀ b o, b ≠ S ∧ b ≠ z ∧ b ≠ i1 ∧ b ≠ i2 ∧ b ≠ TO → s.heap.get? b = some o → h'.get? b = some o) → h'.get? S = some { cls := .type "list", dict := none, data := .seq acc c, slots := #[] } → as.length = n → Made P1 P2 S h' as →
      acc.toList = as.map Value.ref → R (.ok (.ret .none)) { s with heap := h', toks := tk }) :
    wpAny (model prog w) A.in1 (Builtin.«list.__init__» ⟨[.ref S, .ref z], []⟩)
      (fun fin s' => match fin with | .done f => R (.ok f) s' | .again c' => c'.quiet = true ∧ codeAny (model prog w) A c' R s') (fun e s' => R (.error e) s') s := by
  show wpAny _ _ (do let old ← Builtin.List.listItems (.ref S); Builtin.List.listUpdate (.ref S) (fun _ => #[]); letGo old.toList.reverse; Builtin.List.listExtendWith (.ref S) (.ref z) .none) _ _ s
  refine wpAny_bind ?_
  unfold Builtin.List.listItems
  refine wpAny_bind (wpAny_seqItems hS rfl (wpAny_pure ?_)); (show wpAny _ _ (updateSeq S (fun _ => #[]) >>= fun _ => letGo (#[] : Array Value).toList.reverse >>= fun _ => Builtin.List.listExtendWith (.ref S) (.ref z) .none) _ _ s)
  refine wpAny_bind (wpAny_updateSeq hS rfl ?_)
  have hS₂ := Heap.get?_update_self (Obj.mapSeq (fun _ => (#[] : Array Value))) hS rfl
  have oth : ∀ b o, b ≠ S → s.heap.get? b = some o → (s.heap.update S (Obj.mapSeq (fun _ => (#[] : Array Value)))).get? b = some o := fun b o hb e => (Heap.get?_update_other _ _ (Ne.symm hb)).trans e
  refine wpAny_bind (wpAny_letGo ?_)
  exact zl_extend en sz sp D1 D2 lz lT li1 li2 hn .none _ (oth _ _ sp.z hz) (hst.keep D1 D2 sp oth) hS₂ fun h' tk acc c as hk hS' hl hG hacc => hR h' tk acc c as (fun b o q e => hk b o q (oth b o q.1 e)) hS' hl hG hacc
theorem zl_call {Q : Value → Shared → Prop} (en : n = min n1 n2) (sz : ZipSep2 z TI TO i1 i2 fp1 fp2) (D1 : Draws prog w A.in1.in1.in1 i1 fp1 n1 P1 St1) (D2 : Draws prog w A.in1.in1.in1 i2 fp2 n2 P2 St2) (hn : n ≤ sizeLine) (f1 : ∀ b ∈ fp1, b < s.heap.objs.size) (f2 : ∀ b ∈ fp2, b < s.heap.objs.size)
    (hz : IsZip s.heap z TI TO .none) (hTI : IsTupOf2 s.heap TI (.ref i1) (.ref i2)) (hTO : ∃ a b, IsTupOf2 s.heap TO a b) (st1 : St1 0 s.heap) (st2 : St2 0 s.heap)
    (hQ : ∀ h' tk acc c as, (∀ b o, b ≠ z ∧ b ≠ i1 ∧ b ≠ i2 ∧ b ≠ TO → s.heap.get? b = some o → h'.get? b = some o) → h'.get? s.heap.objs.size = some { cls := .type "list", dict := none, data := .seq acc c, slots := #[] } → as.length = n → Made P1 P2 s.heap.objs.size h' as →
      acc.toList = as.map Value.ref → Q (.ref s.heap.objs.size) { s with heap := h', toks := tk }) :
    wpAny (model prog w) A (call (.type "list") [.ref z]) Q E s := by
  refine callType_codes (Q₁ := fun obj s₁ => obj = .ref s.heap.objs.size ∧ s₁ = { s with heap := s.heap.push { cls := .type "list", data := .seq #[] } }) PySem.F.called_list (PySem.F.typeCall_list_1 _) PySem.F.entry_list_init (code_list_new _ ⟨rfl, rfl⟩) fun obj s₁ h₁ => ?_
  obtain ⟨rfl, rfl⟩ := h₁
  have hS : (s.heap.push { cls := .type "list", data := .seq #[] }).get? s.heap.objs.size = some { cls := .type "list", data := .seq #[] } := Heap.get?_push_size _ rfl
  have up : ∀ b o, s.heap.get? b = some o → (s.heap.push { cls := .type "list", data := .seq #[] }).get? b = some o := fun b o e => Heap.get?_push_of_some _ e
  obtain ⟨a, b, hO⟩ := hTO
  have l1 : i1 < s.heap.objs.size := f1 _ sz.mem1
  have l2 : i2 < s.heap.objs.size := f2 _ sz.mem2
  refine ⟨⟨_, hS, rfl⟩, PySem.F.args_list_init_2 _ _, zl_init (A := A.in1) en sz ⟨Nat.ne_of_lt (Heap.lt_size hz), Nat.ne_of_lt (Heap.lt_size hTI), Nat.ne_of_lt (Heap.lt_size hO), fun h => Nat.lt_irrefl _ (f1 _ h), fun h => Nat.lt_irrefl _ (f2 _ h)⟩ D1 D2 (Heap.lt_size hz) (Heap.lt_size hO) l1 l2 hn (up _ _ hz)
    ⟨up _ _ hTI, D1.frame _ _ _ st1 fun b _ o e => up b o e, D2.frame _ _ _ st2 fun b _ o e => up b o e, .inl ⟨up _ _ hz, a, b, up _ _ hO⟩⟩ hS fun h' tk acc c as hk hS' hl hG hacc => ?_⟩
  exact ⟨rfl, hQ h' tk acc c as (fun b o q e => hk b o ⟨Nat.ne_of_lt (Heap.lt_size e), q⟩ (up b o e)) hS' hl hG hacc⟩
end
end Lz

set_option Elab.async false
set_option linter.all false
set_option maxRecDepth 100000
set_option maxHeartbeats 4000000
namespace Lz
open PySem PySem.Spec PyProof.Rows L2 PySem.W
/-- pairs tracked at their addresses -/
def putP : Hp → List Addr → List (V × V) → Hp
  | H, a :: as, p :: ps => putP (upd H a (.tup [p.1, p.2])) as ps
  | H, _, _ => H
theorem putP_off {b : Addr} : ∀ (as : List Addr) (ps : List (V × V)) (H : Hp), b ∉ as → putP H as ps b = H b
  | [], _, _, _ => rfl
  | _ :: _, [], _, _ => rfl
  | a :: as, p :: ps, H, h => by
    show putP (upd H a (.tup [p.1, p.2])) as ps b = H b
    rw [putP_off as ps _ (fun q => h (List.mem_cons_of_mem _ q)), upd_ne (fun q => h (by rw [q]; exact List.mem_cons_self))]
theorem putP_at : ∀ (as : List Addr) (ps : List (V × V)) (H : Hp), as.Nodup → ∀ (j : Nat) (t : Addr) (p : V × V), as[j]? = some t → ps[j]? = some p → putP H as ps t = some (.tup [p.1, p.2])
  | [], _, _, _, j, t, p, h, _ => by cases h
  | _ :: _, [], _, _, j, t, p, _, h => by cases h
  | a :: as, q :: ps, H, nd, 0, t, p, h, g => by
    have nd' := List.nodup_cons.mp nd
    cases h
    cases g
    show putP (upd H a (.tup [q.1, q.2])) as ps a = _
    rw [putP_off as ps _ nd'.1, upd_same]
  | a :: as, q :: ps, H, nd, j + 1, t, p, h, g => putP_at as ps _ (List.nodup_cons.mp nd).2 j t p h g
theorem vals_as : ∀ as : List Addr, Vals (as.map V.ref) (as.map Value.ref)
  | [] => .nil
  | _ :: as => .cons rfl (vals_as as)
/-- what list(zip(a, b)) leaves -/
def Zipped (H : Hp) (xs ys : List V) (p : Addr) (ts : List Addr) (H' : Hp) : Prop :=
  Same H H' ∧ H p = none ∧ (∀ t ∈ ts, H t = none) ∧ p ∉ ts ∧ H' p = some (.lst (ts.map V.ref)) ∧ ts.length = xs.length ∧ ∀ (j : Nat) (t : Addr), ts[j]? = some t → ∃ x y, xs[j]? = some x ∧ ys[j]? = some y ∧ H' t = some (.tup [x, y])
def tListZip (K : PySem.W.Frag) (ta : TA) : TE := fun σ H Q => ta σ H fun vs H1 => ∃ a b xs ys, vs = [.ref a, .ref b] ∧ ((SqT K H1 a xs ∧ SqT K H1 b ys) ∨ (SqL K H1 a xs ∧ SqL K H1 b ys)) ∧ xs.length = ys.length ∧
  ∀ H' p ts, Zipped H1 xs ys p ts H' → Q (.ref p) H'
section
variable {X : Cx} {pins : List (Addr × Obj)} {σ : L2.St} {H : Hp} {s : Shared}
theorem zips_laid {S : Addr} {h' : Heap} {tk : Nat} {xs ys : List V} {us ws : List Value} {acc : Array Value} {c : Nat} {as : List Addr} (I : Inv X pins σ H s) (hS0 : s.heap.objs.size ≤ S) (hz : xs.length ≤ sizeLine) (hxy : xs.length = ys.length) (r1 : Vals xs us) (r2 : Vals ys ws)
    (hk : ∀ b o, s.heap.get? b = some o → h'.get? b = some o) (hS : h'.get? S = some { cls := .type "list", dict := none, data := .seq acc c, slots := #[] }) (hl : as.length = xs.length) (hG : Made (fun i v => us.toArray[i]? = some v) (fun i v => ws.toArray[i]? = some v) S h' as) (hacc : acc.toList = as.map Value.ref) :
    ∃ H', Zipped H xs ys S as H' ∧ Inv X pins σ H' { s with heap := h', toks := tk } := by
  have nS : S ∉ as := fun q => Nat.lt_irrefl _ (hG.above _ q)
  have nd : as.Nodup := List.Pairwise.imp (fun {a b} (h : a < b) => Nat.ne_of_lt h) hG.rise
  have new : ∀ t ∈ as, H t = none := fun t ht => I.hok.fresh (Nat.le_trans hS0 (Nat.le_of_lt (hG.above t ht)))
  have newS : H S = none := I.hok.fresh hS0
  have lp : (xs.zip ys).length = xs.length := by rw [List.length_zip]; omega
  have off : ∀ b, b ∉ as → b ≠ S → putP (upd H S (.lst (as.map V.ref))) as (xs.zip ys) b = H b := fun b h1 h2 => by rw [putP_off as _ _ h1, upd_ne h2]
  have low : ∀ b o, s.heap.get? b = some o → b ∉ as ∧ b ≠ S := fun b o e => ⟨fun q => absurd (Heap.lt_size e) (Nat.not_lt.mpr (Nat.le_trans hS0 (Nat.le_of_lt (hG.above b q)))), Nat.ne_of_lt (Nat.lt_of_lt_of_le (Heap.lt_size e) hS0)⟩
  have kp : ∀ b u, H b = some u → (putP (upd H S (.lst (as.map V.ref))) as (xs.zip ys)) b = some u := fun b u e => by
    rw [off b (fun q => by rw [new b q] at e; cases e) (fun q => by rw [q, newS] at e; cases e)]
    exact e
  have eS : putP (upd H S (.lst (as.map V.ref))) as (xs.zip ys) S = some (.lst (as.map V.ref)) := by rw [putP_off as _ _ nS, upd_same]
  have atj : ∀ (j : Nat) (t : Addr), as[j]? = some t → ∃ x y, xs[j]? = some x ∧ ys[j]? = some y ∧ putP (upd H S (.lst (as.map V.ref))) as (xs.zip ys) t = some (.tup [x, y]) := fun j t e => by
    have hj : j < as.length := (List.getElem?_eq_some_iff.mp e).1
    have h1 : xs[j]? = some (xs[j]'(by omega)) := List.getElem?_eq_getElem _
    have h2 : ys[j]? = some (ys[j]'(by omega)) := List.getElem?_eq_getElem _
    exact ⟨_, _, h1, h2, putP_at as _ _ nd j t (_, _) e (List.getElem?_zip_eq_some.mpr ⟨h1, h2⟩)⟩
  refine ⟨putP (upd H S (.lst (as.map V.ref))) as (xs.zip ys), ⟨kp, newS, new, nS, eS, hl, atj⟩, ?_⟩
  refine I.call' (ch := []) rfl ⟨fun b o q _ _ _ => hk b o q, fun b o q _ _ _ => ⟨o.slots, hk b o q⟩, fun b o q n _ => ?_, fun b o q _ => ⟨o, hk b o q⟩, fun b xs q => kp b _ q, fun b o u q => kp b _ q, fun b ps q => ⟨#[], by rw [kp b _ q]; simp⟩⟩ (fun b u q => ?_) I.bare fun b q => by simp at q
  · obtain ⟨z1, z2⟩ := low b o q
    rw [off b z1 z2]
    exact n
  · by_cases hb : b ∈ as
    · obtain ⟨j, hj⟩ := List.mem_iff_getElem?.mp hb
      obtain ⟨x, y, e1, e2, e3⟩ := atj j b hj
      rw [e3] at q
      cases q
      obtain ⟨u, v, f1, f2, f3⟩ := hG.pairs j b hj
      obtain ⟨u', g1, g2⟩ := r1.get e1
      obtain ⟨v', k1, k2⟩ := r2.get e2
      have : u = u' := by
        have : us[j]? = some u := by simpa using f1
        rw [g1] at this
        exact (Option.some.inj this).symm
      subst this
      have : v = v' := by
        have : ws[j]? = some v := by simpa using f2
        rw [k1] at this
        exact (Option.some.inj this).symm
      subst this
      exact ⟨by show 2 ≤ sizeLine; decide, [u, v], .cons g2 (.cons k2 .nil), ⟨_, f3, rfl, _, rfl⟩⟩
    · by_cases hb2 : b = S
      · rw [hb2] at q ⊢
        rw [eS] at q
        cases q
        refine ⟨by rw [List.length_map]; omega, acc.toList, c, by rw [hacc]; exact vals_as as, ?_⟩
        rw [Array.toArray_toList]
        exact hS
      · rw [off b hb hb2] at q
        exact (I.hok b u q).stay (fun d v _ y => hk d v y) (fun d y => kp d _ y) fun d xs y => kp d _ y
variable {e e2 : Expr} {ta : TA} {p zp cpos pos : Pos}
theorem pe_listZip (hc : X.calm = true) (ha : PA X [e, e2] ta) (hg : Gl X "list") (hm : X.mg "list" = none) (hgz : Gl X "zip") (hmz : X.mg "zip" = none)
    (hs : starEach [.Call (.Name "zip" zp) [e, e2] [] cpos] X.env = (false, eval (.Call (.Name "zip" zp) [e, e2] [] cpos) X.env) :: starEach [] X.env := by rfl)
    (hs2 : starEach [e, e2] X.env = (false, eval e X.env) :: starEach [e2] X.env := by rfl) (hpl : (backTo cpos (starEach [e2] X.env)).any (·.1) = false := by rfl) :
    PE X (.Call (.Name "list" p) [.Call (.Name "zip" zp) [e, e2] [] cpos] [] pos) (tListZip X.K ta) := by
  refine ⟨fun pins s σ H Q I hq => wpAny_Call_Name_kw (ld_blt I hg hm PyProof.Rows.boot_list (PyProof.Rows.callWith_type1 ?_ hs rfl))⟩
  rw [hs]
  show wpAny _ _ (spliced ((false, eval (.Call (.Name "zip" zp) [e, e2] [] cpos) X.env) :: backTo pos (starEach [] X.env))) _ _ s
  refine Calls.spliced_cons (Call_ (ld_blt I hgz hmz PyProof.Rows.boot_zip (PyProof.Rows.callWith_type1 (thn (ha.run cpos pins s σ H _ I hq) fun us s1 ⟨vs, H1, I1, r1, q1⟩ => ?_) hs2 hpl)))
  obtain ⟨a, b, xs, ys, ex, hab, hl, q⟩ := q1
  subst ex
  obtain ⟨u1, u2, rfl, rx, ry⟩ := vals2 r1
  cases rx
  cases ry
  have hh := I1.ok.hd hc
  have ap : ∀ {v : Addr} {o : Obj}, s1.heap.get? v = some o → ∀ x ∈ [v], x < s1.heap.objs.size := fun e x hx => by rw [List.mem_singleton.mp hx]; exact Heap.lt_size e
  have fin : ∀ (h1 : Heap) (fp1 fp2 : List Addr) (us ws : List Value) (St1 St2 : Nat → Heap → Prop), xs.length ≤ sizeLine → Vals xs us → Vals ys ws → (∀ c ∈ fp1, c < s1.heap.objs.size) → (∀ c ∈ fp2, c < s1.heap.objs.size) →
      (∀ A : Around, A.handled = none → Draws X.prog X.w A s1.heap.objs.size (s1.heap.objs.size :: fp1) us.toArray.size (fun i v => us.toArray[i]? = some v) St1) → (∀ A : Around, A.handled = none → Draws X.prog X.w A (s1.heap.objs.size + 1) ((s1.heap.objs.size + 1) :: fp2) ws.toArray.size (fun i v => ws.toArray[i]? = some v) St2) →
      IsZip h1 (s1.heap.objs.size + 4) (s1.heap.objs.size + 2) (s1.heap.objs.size + 3) .none → IsTupOf2 h1 (s1.heap.objs.size + 2) (.ref s1.heap.objs.size) (.ref (s1.heap.objs.size + 1)) → IsTupOf2 h1 (s1.heap.objs.size + 3) .none .none → h1.objs.size = s1.heap.objs.size + 5 →
      (∀ c o, s1.heap.get? c = some o → h1.get? c = some o) → St1 0 h1 → St2 0 h1 → wpAny (model X.prog X.w) X.A (call (.type "list") [.ref (s1.heap.objs.size + 4)]) (EP X pins σ Q) X.xe { s1 with heap := h1 } := by
    intro h1 fp1 fp2 us ws St1 St2 hz rv1 rv2 f1 f2 D1 D2 hZ hTI hTO hsz hk st1 st2
    have b1 := rv1.length
    have b2 := rv2.length
    refine zl_call (n := xs.length) (by simp; omega) (zip_sep2 f1 f2) (D1 X.A.in1.in1.in1 hh) (D2 X.A.in1.in1.in1 hh) hz (fun c hc => ?_) (fun c hc => ?_) hZ hTI ⟨_, _, hTO⟩ st1 st2 fun h' tk acc c as hk' hS hl' hG hacc => ?_
    · rw [hsz]
      rcases List.mem_cons.mp hc with e | e
      · rw [e]; exact Nat.lt_add_of_pos_right (by decide)
      · exact Nat.lt_of_lt_of_le (f1 c e) (Nat.le_add_right _ _)
    · rw [hsz]
      rcases List.mem_cons.mp hc with e | e
      · rw [e]; exact Nat.add_lt_add_left (by decide) _
      · exact Nat.lt_of_lt_of_le (f2 c e) (Nat.le_add_right _ _)
    · have nw : ∀ b o, s1.heap.get? b = some o → h'.get? b = some o := fun b o e => hk' b o ⟨Nat.ne_of_lt (Nat.lt_of_lt_of_le (Heap.lt_size e) (Nat.le_add_right _ _)), Nat.ne_of_lt (Heap.lt_size e), Nat.ne_of_lt (Nat.lt_of_lt_of_le (Heap.lt_size e) (Nat.le_add_right _ _)), Nat.ne_of_lt (Nat.lt_of_lt_of_le (Heap.lt_size e) (Nat.le_add_right _ _))⟩ (hk b o e)
      obtain ⟨H', z, J⟩ := zips_laid (tk := tk) I1 (S := h1.objs.size) (by rw [hsz]; exact Nat.le_add_right _ _) hz hl rv1 rv2 nw hS hl' hG hacc
      exact ⟨.ref h1.objs.size, H', J, rfl, q H' _ as z⟩
  have N0 : ∀ c, c < s1.heap.objs.size → c ≠ s1.heap.objs.size ∧ c ≠ s1.heap.objs.size + 1 := fun c hc => ⟨Nat.ne_of_lt hc, by omega⟩
  rcases hab with ⟨h1, h2⟩ | ⟨h1, h2⟩
  · obtain ⟨us, rv1, p1, z1⟩ := I1.tuple h1
    obtain ⟨ws, rv2, p2, _⟩ := I1.tuple h2
    have la : a < s1.heap.objs.size := let ⟨_, e, _⟩ := p1; Heap.lt_size e
    have lb : b < s1.heap.objs.size := let ⟨_, e, _⟩ := p2; Heap.lt_size e
    refine zip_begins2 (begins_tuple a us.toArray) (begins_tuple b ws.toArray) p1 p2 fun h' hZ hTI hTO o1 o2 hsz hk => ?_
    refine Calls.spliced_nil ?_
    exact fin h' [a] [b] us ws _ _ z1 rv1 rv2 (by simpa using la) (by simpa using lb) (fun A hA => Draws.tuple hA _ a (N0 a la).1 us.toArray) (fun A hA => Draws.tuple hA _ b (N0 b lb).2 ws.toArray) hZ hTI hTO hsz hk ⟨⟨_, o1, rfl, rfl⟩, (let ⟨o, e, r⟩ := p1; ⟨o, hk _ o e, r⟩)⟩ ⟨⟨_, o2, rfl, rfl⟩, (let ⟨o, e, r⟩ := p2; ⟨o, hk _ o e, r⟩)⟩
  · obtain ⟨us, rv1, p1, z1⟩ := I1.list h1
    obtain ⟨ws, rv2, p2, _⟩ := I1.list h2
    refine zip_begins2 (begins_list a us.toArray) (begins_list b ws.toArray) p1.isList p2.isList fun h' hZ hTI hTO o1 o2 hsz hk => ?_
    refine Calls.spliced_nil ?_
    exact fin h' [a] [b] us ws _ _ z1 rv1 rv2 (by simpa using p1.lt) (by simpa using p2.lt) (fun A hA => Draws.list hA _ a (N0 a p1.lt).1 us.toArray) (fun A hA => Draws.list hA _ b (N0 b p2.lt).2 ws.toArray) hZ hTI hTO hsz hk ⟨⟨_, o1, rfl, rfl⟩, p1.isList.at fun o e => hk _ o e⟩ ⟨⟨_, o2, rfl, rfl⟩, p2.isList.at fun o e => hk _ o e⟩
end
end Lz

set_option Elab.async false
set_option linter.all false
set_option maxRecDepth 100000
set_option maxHeartbeats 4000000
/-! name = {k: v for ..} as a statement; its reading over a walk -/
namespace Sd
open PySem PySem.Spec PyProof.Rows L2
section
variable {X : Cx}
theorem ps_setDc {i : Nat} {y : Str} {py : Pos} {kx vx tg iter : Expr} {ifs : List Expr} {scope : Scope} {own : List (Str × Nat)} {pos spos : Pos} {wi : TI} {g : TG} {tt : TT} {tk tv : TE} (hc : X.calm = true) (hN : X.N.Nodup) (hy : X.N[i]? = some y) (hyl : X.env.scope.names.lookup y = some .local)
    (hsw : swapsWith (.DictComp kx vx [⟨tg, iter, ifs, 0⟩] scope pos) (some (.Name y py)) spos.line X.env = pure true) (hi : PI X tg iter wi) (ok : BlkOk X.N X.env.scope scope own)
    (hg : ∀ (s : Shared) (H : Hp) (C : Addr) (cl : List (Str × Addr)) (fp : List Addr), PG (X.blk s H scope (compEnvC scope cl C X.env) fp) tg g) (ht : ∀ (s : Shared) (H : Hp) (C : Addr) (cl : List (Str × Addr)) (fp : List Addr), PTs (X.blk s H scope (compEnvC scope cl C X.env) fp) ifs tt)
    (hk : ∀ (s : Shared) (H : Hp) (C : Addr) (cl : List (Str × Addr)) (fp : List Addr), PE (X.blk s H scope (compEnvC scope cl C X.env) fp) kx tk) (he : ∀ (s : Shared) (H : Hp) (C : Addr) (cl : List (Str × Addr)) (fp : List Addr), PE (X.blk s H scope (compEnvC scope cl C X.env) fp) vx tv)
    (hs : ∀ x, foldedSetIterable iter X.env x = pure x := by intro _; rfl) : PS X (.Assign [.Name y py] (.DictComp kx vx [⟨tg, iter, ifs, 0⟩] scope pos) spos) (tAsg (tDc wi g tt tk tv (own.map (·.2))) (gName i)) := by
  refine ⟨fun pins s σ H D I h => ?_⟩
  rw [exec_Assign_Name_used _ _ _ _ hsw]; refine wpAny_bind (wpAny_standAt (wpAny_bind ?_))
  show wpAny _ X.A (do let _ ← comprehension (.DictComp kx vx [⟨tg, iter, ifs, 0⟩] scope pos) scope X.env (firstIterPos [⟨tg, iter, ifs, 0⟩] pos) newDict false (eval iter X.env) (some (assign (.Name y py) X.env))) _ _ s
  have h : tDc wi g tt tk tv (own.map (·.2)) σ H (fun x H1 => gName i x σ H1 D.nx) := h
  refine wpAny_bind (thn (dc_core (Qf := fun _ s' => SP X pins D .next s') hc hN I hi ok hg ht hk he hs h fun L C s' m H' I' q hn f => ?_) fun _ s' hq => wpAny_pure (wpAny_pure hq))
  (show wpAny _ _ (assign (.Name y py) X.env (.ref L)) _ _ _); refine wpAny_assign_Name (store_ok2 (v := V.ref L) I' hN hy (.inl hyl) rfl (fun s2 I2 ⟨a, sb, ha⟩ => ?_) (.inr hyl))
  obtain ⟨f0, f1, f2, f3, f4, f5⟩ := f
  have hne : C ≠ a := ha.elim (fun z => by rw [z]; exact f1) fun z e => f4 y a z e.symm
  exact ⟨m, hn.sameBut sb hne, fun h3 sb3 => ⟨_, H', I2.turned (t' := s2.toks) (fun b o hb e => (sb3.2 b hb).trans e) f0 f1 f3 f4 f5, q⟩⟩
theorem sw_trueD {kx vx : Expr} {gs : List Comprehension} {scope : Scope} {pos py : Pos} {y : Str} {l : Nat} {env : Env} (hk : env.scope.kind = .function) (hy : env.scope.names.lookup y = some .local) (hl : (py.line == pos.line) = true)
    (ha : (scope.names.any fun (n, k) => n == y && (k == .local || k == .cell)) = false) : swapsWith (.DictComp kx vx gs scope pos) (some (.Name y py)) l env = pure true := by
  have ky : env.kindOf y = some .local := hy
  have hb : env.blockKind = .function := by unfold Env.blockKind; rw [hk]; rfl
  unfold swapsWith
  simp only [hb, ky, ha, Expr.pos, hl]; rfl
end
/-- over anything that is walked -/
theorem dc_it {J : It} {n : Nat} {G : Hp → Prop} {Y : Nat → Hp → V → Hp → Prop} (w : Walk J n G Y) {g : TG} {tt : TT} {tk tv : TE} {vs : List Nat} {σ : L2.St} {H1 : Hp} {D : Addr} {Qd : Hp → Prop} (Pv : Nat → Hp → Prop) (h0 : Pv 0 (upd H1 D (.dK []))) (hG : ∀ i H, i ≤ n → Pv i H → G H)
    (hs : ∀ i x H H', i < n → Pv i H → Y i H x H' → g x (wipe σ vs) H' fun σ2 H2 => wipe σ2 vs = wipe σ vs ∧ tt σ2 H2 fun b H3 =>
      if b = true then tk σ2 H3 fun y H4 => tv σ2 H4 fun z H5 => ∃ kvs k, y = kV k ∧ H5 D = some (.dK kvs) ∧ kvs.length < sizeLine ∧ Pv (i + 1) (upd H5 D (.dK (putK kvs k z))) else Pv (i + 1) H3) (hd : ∀ H, Pv n H → Qd H) :
    ∃ W : Nat → Nat → Hp → Prop, (∃ m, W 0 m (upd H1 D (.dK []))) ∧ ∀ i m H, W i m H →
      (J.stop i H ∧ Qd H) ∨ (J.go i H ∧ ∃ Nx : Hp → Prop, (∀ H', Nx H' → ∃ m', m' < m ∧ W (i + 1) m' H') ∧ ∀ x H', J.yld i H x H' → g x (wipe σ vs) H' fun σ2 H2 => wipe σ2 vs = wipe σ vs ∧ tt σ2 H2 fun b H3 =>
        if b = true then tk σ2 H3 fun y H4 => tv σ2 H4 fun z H5 => ∃ kvs k, y = kV k ∧ H5 D = some (.dK kvs) ∧ kvs.length < sizeLine ∧ Nx (upd H5 D (.dK (putK kvs k z))) else Nx H3) := by
  refine ⟨fun i m H => m = n - i ∧ i ≤ n ∧ Pv i H, ⟨n, (Nat.sub_zero n).symm, Nat.zero_le _, h0⟩, ?_⟩
  rintro i m H ⟨rfl, hi, p⟩
  rcases Nat.lt_or_ge i n with lt | ge
  · exact .inr ⟨w.goes i H lt (hG i H hi p), Pv (i + 1), fun H' p' => ⟨n - (i + 1), by omega, rfl, lt, p'⟩, fun x H' y => hs i x H H' lt p (w.yields i H x H' lt (hG i H hi p) y)⟩
  · have e : i = n := by omega
    subst e
    exact .inl ⟨w.stops H (hG i H hi p), hd H p⟩
end Sd

set_option Elab.async false
set_option linter.all false
set_option maxRecDepth 100000
set_option maxHeartbeats 4000000
/-! data as the program's equal goes through it -/
namespace Dq
open PySem PySem.Spec PyProof.Rows L2
inductive DV (OB : Type) where
  | non
  | bl (b : Bool)
  | int (i : Int)
  | str (s : Str)
  | ob (o : OB)
  | tup (l : List (DV OB))
  | lst (l : List (DV OB))
  | map (ks : List Str) (l : List (DV OB))
/-- objects with an own ==: where one stands, its class, what == answers of two of one class -/
structure Obs (OB : Type) where
  At : Hp → OB → V → Prop
  cls : OB → Addr
  eq : OB → OB → Bool
  K : PySem.W.Frag
variable {OB : Type}
mutual
def Dv (O : Obs OB) (H : Hp) : DV OB → V → Prop
  | .non, v => v = .non
  | .bl b, v => v = .bl b
  | .int i, v => v = .int i
  | .str s, v => v = .str s
  | .ob o, v => O.At H o v
  | .tup l, v => ∃ a us, v = .ref a ∧ SqT O.K H a us ∧ DvL O H l us
  | .lst l, v => ∃ a us, v = .ref a ∧ H a = some (.lst us) ∧ DvL O H l us
  | .map ks l, v => ∃ a kvs, v = .ref a ∧ H a = some (.dK kvs) ∧ ks.Nodup ∧ kvs.map (·.1) = ks.map Sum.inr ∧ DvL O H l (kvs.map (·.2))
def DvL (O : Obs OB) (H : Hp) : List (DV OB) → List V → Prop
  | [], us => us = []
  | x :: l, us => ∃ u us', us = u :: us' ∧ Dv O H x u ∧ DvL O H l us'
end
/-- what is kept at the key -/
def look : List Str → List (DV OB) → Str → Option (DV OB)
  | k :: ks, x :: l, z => if z = k then some x else look ks l z
  | _, _, _ => none
mutual
def eqD (O : Obs OB) : DV OB → DV OB → Bool
  | .non, .non => true
  | .bl a, .bl b => decide (a = b)
  | .int a, .int b => decide (a = b)
  | .str a, .str b => decide (a = b)
  | .ob a, .ob b => decide (O.cls a = O.cls b) && O.eq a b
  | .tup l, .tup m => eqL O l m
  | .lst l, .lst m => eqL O l m
  | .map ks l, .map js m => decide (ks.length = js.length) && eqM O ks l js m
  | _, _ => false
def eqL (O : Obs OB) : List (DV OB) → List (DV OB) → Bool
  | [], [] => true
  | x :: l, y :: m => eqD O x y && eqL O l m
  | _, _ => false
def eqM (O : Obs OB) (ks : List Str) : List (DV OB) → List Str → List (DV OB) → Bool
  | [], _, _ => true
  | x :: l, js, m => (match ks with | k :: _ => (match look js m k with | some y => eqD O x y | none => false) | [] => true) && eqM O (ks.drop 1) l js m
end
mutual
/-- how many pairs the way through a value can have at most -/
def wt : DV OB → Nat
  | .tup l => 1 + wtL l
  | .lst l => 1 + wtL l
  | .map ks l => 1 + ks.length + wtL l
  | _ => 1
def wtL : List (DV OB) → Nat
  | [] => 0
  | x :: l => wt x + wtL l
end
end Dq

set_option Elab.async false
set_option linter.all false
set_option maxRecDepth 100000
set_option maxHeartbeats 4000000
namespace Dq
open PySem PySem.Spec PyProof.Rows L2
structure ObsOk {OB : Type} (K : PySem.W.Frag) (O : Obs OB) : Prop where
  keep : ∀ {H H' : Hp} {o : OB} {v : V}, Same H H' → O.At H o v → O.At H' o v
  ins : ∀ {H : Hp} {o : OB} {v : V}, O.At H o v → ∃ a dx fs, v = .ref a ∧ H a = some (.ins (O.cls o) dx fs)
  insC : ∀ o, C8.InsC K (O.cls o)
  kT : ∀ o T, T ∈ ["list", "dict", "tuple"] → PySem.W.kitOne K (.ref (O.cls o)) (.type T) = some false
  makes : ∀ o, PySem.W.makesIn K (O.cls o) = true
  kk : O.K = K
/-- a tuple that is read stays -/
theorem SqT.same {K : PySem.W.Frag} {H H' : Hp} {a : Addr} {xs : List V} (h : SqT K H a xs) (e : Same H H') : SqT K H' a xs :=
  h.elim (fun h => .inl (h.elim (fun h => .inl (e _ _ h)) fun ⟨o, h⟩ => .inr ⟨o, e _ _ h⟩)) fun h => .inr h
theorem SqT.tyx {K : PySem.W.Frag} {H : Hp} {a : Addr} {xs : List V} (h : SqT K H a xs) : TyX K H (.ref a) (.type "tuple") := by
  rcases h with (h | ⟨o, h⟩) | ⟨o, its, n, hk, hc, _⟩
  · exact .base (.tup h)
  · exact .fTuple h
  · exact .kTuple hk hc
variable {OB : Type} {O : Obs OB} {K : PySem.W.Frag}
mutual
theorem Dv.keep (ok : ObsOk K O) {H H' : Hp} (k : Same H H') : ∀ (x : DV OB) (v : V), Dv O H x v → Dv O H' x v
  | .non, _, h => h
  | .bl _, _, h => h
  | .int _, _, h => h
  | .str _, _, h => h
  | .ob _, _, h => ok.keep k h
  | .tup l, _, ⟨a, us, e, h, p⟩ => ⟨a, us, e, SqT.same h k, DvL.keep ok k l us p⟩
  | .lst l, _, ⟨a, us, e, h, p⟩ => ⟨a, us, e, k _ _ h, DvL.keep ok k l us p⟩
  | .map _ l, _, ⟨a, kvs, e, h, nd, hk, p⟩ => ⟨a, kvs, e, k _ _ h, nd, hk, DvL.keep ok k l _ p⟩
theorem DvL.keep (ok : ObsOk K O) {H H' : Hp} (k : Same H H') : ∀ (l : List (DV OB)) (us : List V), DvL O H l us → DvL O H' l us
  | [], _, h => h
  | x :: l, _, ⟨u, us, e, h, p⟩ => ⟨u, us, e, Dv.keep ok k x u h, DvL.keep ok k l us p⟩
end
theorem DvL.len {H : Hp} : ∀ {l : List (DV OB)} {us : List V}, DvL O H l us → us.length = l.length
  | [], _, h => by cases h; rfl
  | x :: l, _, ⟨u, us, e, _, p⟩ => by subst e; exact congrArg (· + 1) (DvL.len p)
theorem DvL.at {H : Hp} : ∀ {l : List (DV OB)} {us : List V}, DvL O H l us → ∀ {i : Nat} {x : DV OB} {u : V}, l[i]? = some x → us[i]? = some u → Dv O H x u
  | [], _, h, i, x, u, e, _ => by cases e
  | y :: l, _, ⟨w, us, rfl, h, p⟩, 0, x, u, e, f => by cases e; cases f; exact h
  | y :: l, _, ⟨w, us, rfl, h, p⟩, i + 1, x, u, e, f => DvL.at (l := l) p (i := i) (by simpa using e) (by simpa using f)
/-- a value's class -/
def tyD (O : Obs OB) : DV OB → V
  | .non => .ty "NoneType"
  | .bl _ => .ty "bool"
  | .int _ => .ty "int"
  | .str _ => .ty "str"
  | .ob o => .ref (O.cls o)
  | .tup _ => .ty "tuple"
  | .lst _ => .ty "list"
  | .map _ _ => .ty "dict"
def tyU (O : Obs OB) : DV OB → Value
  | .non => .type "NoneType"
  | .bl _ => .type "bool"
  | .int _ => .type "int"
  | .str _ => .type "str"
  | .ob o => .ref (O.cls o)
  | .tup _ => .type "tuple"
  | .lst _ => .type "list"
  | .map _ _ => .type "dict"
def isSeq : DV OB → Bool
  | .tup _ => true
  | .lst _ => true
  | _ => false
def isMap : DV OB → Bool
  | .map _ _ => true
  | _ => false
theorem Dv.ty (ok : ObsOk K O) {H : Hp} {x : DV OB} {v : V} (h : Dv O H x v) : TyX K H v (tyU O x) := by
  cases x with
  | non => cases h; exact .base .non
  | bl b => cases h; exact .base (.bl b)
  | int i => cases h; exact .base (.int i)
  | str s => cases h; exact .base (.str s)
  | ob o =>
    obtain ⟨a, dx, fs, rfl, e⟩ := ok.ins h
    have U := ok.insC o
    exact .base (.ins e U.cl U.ha U.hn U.htk U.hm)
  | tup l => obtain ⟨a, us, rfl, e, _⟩ := h; exact SqT.tyx (ok.kk ▸ e)
  | lst l => obtain ⟨a, us, rfl, e, _⟩ := h; exact .base (.lst e)
  | map ks l => obtain ⟨a, us, rfl, e, _⟩ := h; exact .base (.dK e)
theorem kit_tab2 : ∀ a ∈ ["NoneType", "bool", "int", "str", "tuple", "list", "dict"], ∀ T ∈ ["list", "dict", "tuple"], kitB a T = some (a == T) := by decide +kernel
theorem kit_one (ok : ObsOk K O) (x : DV OB) {T : String} (hT : T ∈ ["list", "dict", "tuple"]) : PySem.W.kitOne K (tyU O x) (.type T) = some (decide (tyD O x = .ty T)) := by
  have go : ∀ a, a ∈ ["NoneType", "bool", "int", "str", "tuple", "list", "dict"] → PySem.W.kitOne K (.type a) (.type T) = some (decide (V.ty a = V.ty T)) := fun a ha => by
    have e : (a == T) = decide (V.ty a = V.ty T) := by rw [Bool.eq_iff_iff]; simp
    rw [← e]
    exact kit_ty (kit_tab2 a ha T hT)
  cases x with
  | ob o => simpa [tyU, tyD] using ok.kT o T hT
  | _ => exact go _ (by simp)
theorem kit_seq (ok : ObsOk K O) (x : DV OB) : PySem.W.kitAny K (tyU O x) [.type "tuple", .type "list"] = some (isSeq x) := by
  unfold PySem.W.kitAny
  rw [kit_one ok x (by simp)]
  unfold PySem.W.kitAny
  rw [kit_one ok x (by simp)]
  cases x <;> simp [tyD, isSeq, PySem.W.kitAny]
section
variable {X : Cx}
theorem call_isTL (ok : ObsOk X.K O) : CallR X (.builtin "isinstance") (fun xs H Q => ∃ v tp x, xs = [v, .ref tp] ∧ H tp = some (.tup [.ty "tuple", .ty "list"]) ∧ Dv O H x v ∧ Q (.bl (isSeq x)) H) := fun pins s σ H xs us Q I r ⟨v, tp, x, e, ht, h, q⟩ =>
  call_isiT pins s σ H xs us Q I r ⟨v, tp, _, tyU O x, [.type "tuple", .type "list"], isSeq x, e, ht, .cons (.ty _) (.cons (.ty _) .nil), h.ty ok, kit_seq ok x, q⟩
theorem call_isD (ok : ObsOk X.K O) : CallR X (.builtin "isinstance") (fun xs H Q => ∃ v x, xs = [v, .ty "dict"] ∧ Dv O H x v ∧ Q (.bl (isMap x)) H) := fun pins s σ H xs us Q I r ⟨v, x, e, h, q⟩ => by
  have : decide (tyD O x = .ty "dict") = isMap x := by cases x <;> simp [tyD, isMap]
  exact call_isi pins s σ H xs us Q I r ⟨v, .ty "dict", tyU O x, .type "dict", isMap x, e, .ty "dict", h.ty ok, by rw [← this]; exact kit_one ok x (by simp), q⟩
/-- type(x) -/
theorem call_tyD (ok : ObsOk X.K O) : CallR X (.type "type") (fun xs H Q => ∃ v x, xs = [v] ∧ Dv O H x v ∧ Q (tyD O x) H) := fun pins s σ H xs us Q I r ⟨v, x, e, h, q⟩ => by
  have go : ∀ T, TyB X.K H v T → tyD O x = .ty T → wpAny (model X.prog X.w) X.A (call (.type "type") us) (EP X pins σ Q) X.xe s := fun T t e2 => by
    rw [e2] at q
    exact call_type1 pins s σ H xs us Q I r ⟨v, T, e, t, q⟩
  cases x with
  | non => cases h; exact go _ .non rfl
  | bl b => cases h; exact go _ (.bl b) rfl
  | int i => cases h; exact go _ (.int i) rfl
  | str s => cases h; exact go _ (.str s) rfl
  | ob o =>
    obtain ⟨a, dx, fs, e3, ea⟩ := ok.ins h
    subst e3
    exact cr_type pins s σ H xs us Q I r ⟨a, _, dx, fs, e, ea, q⟩
  | tup l => obtain ⟨a, us, rfl, ea, _⟩ := h; exact go _ (.tup (ok.kk ▸ ea)) rfl
  | lst l => obtain ⟨a, us, rfl, ea, _⟩ := h; exact go _ (.lst (SqL.of ea)) rfl
  | map ks l => obtain ⟨a, us, rfl, ea, _⟩ := h; exact go _ (.dK ea) rfl
/-- of two classes: is -/
theorem op_isD (ok : ObsOk X.K O) : OpR X (compareOp .Is) (fun a b H Q => ∃ x y : DV OB, a = tyD O x ∧ b = tyD O y ∧ Q (.bl (decide (tyD O x = tyD O y))) H) := by
  intro pins s σ H a b v u Q I rx ry h
  obtain ⟨x, y, ea, eb, q⟩ := h
  have cl : ∀ z : DV OB, (∃ T, tyD O z = .ty T) ∨ ∃ o, tyD O z = .ref (O.cls o) := fun z => by
    cases z with
    | ob o => exact .inr ⟨o, rfl⟩
    | _ => exact .inl ⟨_, rfl⟩
  rcases cl x with ⟨T, e1⟩ | ⟨o, e1⟩ <;> rcases cl y with ⟨T', e2⟩ | ⟨o', e2⟩
  · rw [e1, e2] at q
    refine op_isTyB pins s σ H a b v u Q I rx ry ⟨T, T', ea.trans e1, eb.trans e2, ?_⟩
    have : decide (V.ty T = V.ty T') = decide (T = T') := by rw [Bool.eq_iff_iff]; simp
    rwa [this] at q
  · rw [e1, e2] at q
    have e3 := ea.trans e1
    have e4 := eb.trans e2
    subst e3 e4
    cases (show v = Value.type T from rx)
    cases (show u = Value.ref _ from ry)
    exact wpAny_is_other rfl (fun z => by cases z) ⟨.bl false, H, I, rfl, by simpa using q⟩
  · rw [e1, e2] at q
    have e3 := ea.trans e1
    have e4 := eb.trans e2
    subst e3 e4
    cases (show v = Value.ref _ from rx)
    cases (show u = Value.type T' from ry)
    exact wpAny_is_other rfl (fun z => by cases z) ⟨.bl false, H, I, rfl, by simpa using q⟩
  · rw [e1, e2] at q
    refine op_is_cls pins s σ H a b v u Q I rx ry ⟨_, _, ea.trans e1, eb.trans e2, .inr ⟨ok.makes o, ok.makes o'⟩, ?_⟩
    have : decide (V.ref (O.cls o) = V.ref (O.cls o')) = decide (O.cls o = O.cls o') := by rw [Bool.eq_iff_iff]; simp
    rwa [this] at q
/-- x == y of two objects of one class -/
def rOb (O : Obs OB) : R2 := fun x y H Q => ∃ a b, O.At H a x ∧ O.At H b y ∧ O.cls a = O.cls b ∧ ∀ H', Same H H' → Q (.bl (O.eq a b)) H'
/-- == of what is neither a tuple, a list nor a dict -/
theorem op_leaf (hu : X.A.units + 64 < cLine) (oe : OpR X (compareOp .Eq) (rOb O)) : OpR X (compareOp .Eq) (fun a b H Q => ∃ x y : DV OB, Dv O H x a ∧ Dv O H y b ∧ tyD O x = tyD O y ∧ isSeq x = false ∧ isMap x = false ∧ ∀ H', Same H H' → Q (.bl (eqD O x y)) H') := by
  intro pins s σ H a b v u Q I rx ry h
  obtain ⟨x, y, hx, hy, et, q1, q2, q⟩ := h
  have sca : ∀ a0 b0 : V, a = a0 → b = b0 → scal a0 b0 = true → decide (a0 = b0) = eqD O x y → wpAny (model X.prog X.w) X.A (compareOp .Eq v u) (EP X pins σ Q) X.xe s := fun a0 b0 e1 e2 sd e3 => by
    subst e1 e2
    refine op_eq pins s σ H a b v u Q I rx ry ⟨sd, ?_⟩
    rw [e3]
    exact q H (Same.refl H)
  cases x with
  | non =>
    cases y <;> simp [tyD] at et
    have q0 := q H (Same.refl H)
    rw [eqD] at q0
    exact op_eqD hu pins s σ H a b v u Q I rx ry ⟨.none, .none, by rw [show a = .non from hx]; exact .non, by rw [show b = .non from hy]; exact .non, rfl, rfl, q0⟩
  | bl c =>
    cases y <;> simp [tyD] at et
    rename_i d
    exact sca (.bl c) (.bl d) hx hy rfl (by simp [eqD])
  | int c =>
    cases y <;> simp [tyD] at et
    rename_i d
    exact sca (.int c) (.int d) hx hy rfl (by simp [eqD])
  | str c =>
    cases y <;> simp [tyD] at et
    rename_i d
    exact sca (.str c) (.str d) hx hy rfl (by simp [eqD])
  | ob o =>
    cases y <;> simp [tyD] at et
    rename_i o'
    have e : eqD O (.ob o) (.ob o') = O.eq o o' := by rw [eqD, decide_eq_true et]; rfl
    rw [e] at q
    exact oe pins s σ H a b v u Q I rx ry ⟨o, o', hx, hy, et, q⟩
  | tup l => cases q1
  | lst l => cases q1
  | map ks l => cases q2
end
end Dq

set_option Elab.async false
set_option linter.all false
set_option maxRecDepth 100000
set_option maxHeartbeats 4000000
namespace Dq
open PySem PySem.Spec PyProof.Rows L2
abbrev sPod : Stmt := Pf.top 2
/-- what two dicts are held against each other by -/
def podP : List (Key × V) → List (Key × V) → List (V × V)
  | [], _ => []
  | p :: ks, ls => (kV p.1, kV p.1) :: (p.2, (valV ls p.1).getD .non) :: podP ks ls
theorem podP_len : ∀ ks ls, (podP ks ls).length = 2 * ks.length
  | [], _ => rfl
  | _ :: ks, ls => by
    show (podP ks ls).length + 1 + 1 = 2 * (ks.length + 1)
    rw [podP_len ks ls]
    omega
theorem podP_snoc (p : Key × V) : ∀ ks ls, podP (ks ++ [p]) ls = podP ks ls ++ [(kV p.1, kV p.1), (p.2, (valV ls p.1).getD .non)]
  | [], _ => rfl
  | q :: ks, ls => by
    show _ :: _ :: podP (ks ++ [p]) ls = _
    rw [podP_snoc p ks ls]
    rfl
/-- the pairs stand in the list at D -/
def PrsAt (H : Hp) (D : Addr) (ps : List (V × V)) : Prop := ∃ ts : List Addr, H D = some (.lst (ts.map V.ref)) ∧ ts.length = ps.length ∧ ∀ (j : Nat) (t : Addr) (p : V × V), ts[j]? = some t → ps[j]? = some p → H t = some (.tup [p.1, p.2])
def spPod : Sp := fun vs H Q _ => ∃ (a b : Addr) (ks ls : List (Key × V)), vs = [.ref a, .ref b] ∧ H a = some (.dK ks) ∧ H b = some (.dK ls) ∧ (ks.map (·.1)).Nodup ∧ ks.length ≤ 100000 ∧ ls.length ≤ 100000 ∧
  ((ks.length ≠ ls.length ∨ ∃ p ∈ ks, valV ls p.1 = none) → ∀ H', Same H H' → Q .non H') ∧
  (ks.length = ls.length → (∀ p ∈ ks, valV ls p.1 ≠ none) → ∀ D H', Same H H' → H D = none → PrsAt H' D (podP ks ls) → Q (.ref D) H')
abbrev NPod : List Str := ["one", "other", "theirs", "pairs", "key"]
theorem scPod : FnScope NPod ["one", "other"] (defScope sPod) := ⟨rfl, rfl, rfl, by decide +kernel, rfl, by decide +kernel, by decide +kernel⟩
theorem find_at : ∀ {ks : List (Key × V)} {i : Nat} {k : Key} {v : V}, (ks.map (·.1)).Nodup → ks[i]? = some (k, v) → valV ks k = some v
  | [], _, _, _, _, h => by simp at h
  | p :: ks, 0, k, v, _, h => by
    simp only [List.getElem?_cons_zero, Option.some.injEq] at h
    subst h
    exact valV_pos rfl
  | p :: ks, i + 1, k, v, nd, h => by
    have h' : ks[i]? = some (k, v) := by simpa using h
    have nd' := List.nodup_cons.mp nd
    rw [valV_neg fun e => nd'.1 (by show p.1 ∈ _; rw [e]; exact List.mem_map.mpr ⟨(k, v), List.mem_of_getElem? h', rfl⟩)]
    exact find_at nd'.2 h'
theorem take_succ' {α : Type} {l : List α} {i : Nat} {x : α} (h : l[i]? = some x) : l.take (i + 1) = l.take i ++ [x] := by
  rw [List.take_add_one, h]
  rfl
structure TxtE (mg : Str → Option Value) : Prop where
  len : mg "len" = none
  list : mg "list" = none
  zip : mg "zip" = none
  type : mg "type" = none
  tuple : mg "tuple" = none
  dict : mg "dict" = none
  isi : mg "isinstance" = none
section
variable {P : Program} {w : World} {K : PySem.W.Frag} {mg : Str → Option Value} {base : Heap}
theorem ok_pod {f : Addr} {fd : FuncData} (F : Fun K "_pairs_of_dicts" "_pairs_of_dicts" sPod f fd) (T : TxtE mg) : FnOk P w K mg base CX0 1 f fd ["one", "other"] spPod := by
  refine F.ok scPod (fun vs H Q E h => ?_) (fun cdv A outer s H vs Q E hr h => ?_)
  · obtain ⟨a, b, ks, ls, rfl, _⟩ := h
    rfl
  · obtain ⟨a, b, ks, ls, rfl, ha, hb, nd, zk, zl, qn, qy⟩ := h
    have hu := hu_of hr
    refine ⟨_, (pss_cons (ps_if (pt_cmpR op_ne (pe_callB call_lenD (by rfl) T.len PySem.boot_len (pa_cons (pv 0) pa_nil)) (pe_callB call_lenD (by rfl) T.len PySem.boot_len (pa_cons (pv 1) pa_nil)) (nomark _)) (pss_one (ps_ret pe_non)) pss_nil)
      (pss_cons (ps_lock (Sd.ps_setDc (i := 2) (own := [("key", 4)]) (g := gName 4) (tt := tYes) rfl scPod.nd rfl rfl (Sd.sw_trueD rfl rfl rfl (by decide +kernel)) (pi_keys (pv 1)) (blkOk_by (N := NPod) (sc := defScope sPod) (by decide +kernel)) (fun _ _ _ _ _ => pg_name (i := 4) scPod.nd rfl (Or.inl rfl)) (fun _ _ _ _ _ => pts_nil) (fun _ _ _ _ _ => pv 4) (fun _ _ _ _ _ => pv 4)))
      (pss_cons (ps_set (i := 3) scPod.nd rfl (Or.inl rfl) (pe_lst pa_nil))
      (pss_cons (ps_lock (ps_for PassesOwn.never rfl (pi_keys (pv 0)) (pg_name (i := 4) scPod.nd rfl (Or.inl rfl))
        (pss_cons (ps_if (pt_cmp (pc_dnotin hu (pv 4) (pv 2))) (pss_one (ps_ret pe_non)) pss_nil)
        (pss_cons (ps_expr (pe_bm PySem.F.plainAttrs_list PySem.F.slot_list_append PySem.F.type_list_append mt_append (pv 3) (pa_cons (pe_tup (pa_cons (pv 4) (pa_cons (pe_dget hu (pv 2) (pv 4) (fun _ _ => rfl)) pa_nil))) pa_nil)))
        (pss_one (ps_expr (pe_bm PySem.F.plainAttrs_list PySem.F.slot_list_append PySem.F.type_list_append mt_append (pv 3) (pa_cons (pe_tup (pa_cons (pe_dget hu (pv 0) (pv 4) (fun _ _ => rfl)) (pa_cons (pe_dget hu (pv 1) (pv 4) (fun _ _ => rfl)) pa_nil))) pa_nil))))))))
      (pss_one (ps_ret (pv 3))))))), ?_⟩
    refine ⟨_, rfl, a, ks, rfl, ha, _, rfl, b, ls, rfl, hb, rfl, _, rfl, ?_⟩
    by_cases el : ks.length = ls.length
    case neg =>
      refine Vl.iteC (by simp; omega) ?_
      exact qn (.inl el) H (Same.refl H)
    refine Vl.iteN (by simp [el]) ?_
    refine ⟨b, .dK ls, hb, True.intro, fun ob => ⟨_, rfl, b, ob, rfl, .inl ⟨ls, upd_same, fun TH hTH => ?_⟩⟩⟩
    have nTb : TH ≠ b := fun e => by rw [e, upd_same] at hTH; cases hTH
    have hTH0 : H TH = none := by rwa [upd_ne nTb] at hTH
    refine Sd.dc_it (walk_keys (d := b) (o := ob) (kvs := ls)) (fun i H' => (H' b = some (.frz ob (.dK ls)) ∧ ∀ c o, c ≠ b → H c = some o → H' c = some o) ∧ ∃ ts, H' TH = some (.dK ts) ∧ ts.length ≤ i ∧ ∀ k, valV ts k = if valV (ls.take i) k = none then none else some (kV k))
      ⟨⟨(upd_ne (Ne.symm nTb)).trans upd_same, fun c o n e => (upd_ne (ne_of_none e hTH0)).trans ((upd_ne n).trans e)⟩, [], upd_same, Nat.le_refl _, fun k => by simp [valV]⟩ (fun i H' _ h => h.1.1) (fun i x H2 H3 hi h y => ?_) (fun H2 h => ?_)
    · obtain ⟨⟨e1, e2⟩, ts, e3, e4, e5⟩ := h
      obtain ⟨rfl, k, v, e6, rfl⟩ := y
      refine ⟨rfl, _, rfl, _, rfl, ts, k, rfl, e3, Nat.lt_of_le_of_lt (Nat.le_trans e4 (Nat.le_trans (Nat.le_of_lt hi) zl)) (by decide), ⟨(upd_ne (Ne.symm nTb)).trans e1, fun c o n e => (upd_ne (ne_of_none e hTH0)).trans (e2 c o n e)⟩, _, upd_same, Nat.le_trans (length_putK _ _ _) (by omega), fun k2 => ?_⟩
      rw [valV_put, e5, take_succ' e6]
      by_cases q : k2 = k
      · subst q
        have : valV (ls.take i ++ [(k2, v)]) k2 ≠ none := by
          unfold valV
          simp
        rw [if_pos rfl, if_neg this]
      · rw [if_neg q]
        have : valV (ls.take i ++ [(k, v)]) k2 = valV (ls.take i) k2 := by
          unfold valV
          rw [List.find?_append]
          have : List.find? (fun kv => decide (kv.1 = k2)) [(k, v)] = none := by simpa using fun e => q e.symm
          rw [this]
          simp
        rw [this]
    obtain ⟨⟨e1, e2⟩, ts, e3, e4, e5⟩ := h
    rw [List.take_length] at e5
    refine ⟨e1, Nat.zero_le _, fun D hD => ?_⟩
    have s1 : Same H (upd H2 b (.dK ls)) := fun c o e => by
      by_cases n : c = b
      · subst n
        rw [hb] at e
        cases e
        exact upd_same
      · exact (upd_ne n).trans (e2 c o n e)
    have t1 : (upd H2 b (.dK ls)) TH = some (.dK ts) := (upd_ne nTb).trans e3
    generalize (upd H2 b (.dK ls)) = H4 at s1 t1 hD
    have hD0 : H D = none := by
      cases e : H D with
      | none => rfl
      | some o => rw [s1 D o e] at hD; cases hD
    have nDa : D ≠ a := fun e => by rw [e, ha] at hD0; cases hD0
    have nDT : D ≠ TH := fun e => by rw [e, t1] at hD; cases hD
    have nTa : TH ≠ a := fun e => by rw [e, ha] at hTH0; cases hTH0
    have a5 : upd H4 D (.lst []) a = some (.dK ks) := (upd_ne (Ne.symm nDa)).trans (s1 _ _ ha)
    refine ⟨a, .dK ks, a5, True.intro, fun oa => ⟨_, rfl, a, oa, rfl, .inl ⟨ks, upd_same, ?_⟩⟩⟩
    refine for_it (walk_keys (d := a) (o := oa) (kvs := ks)) (fun i σ H' => (∃ w, σ = [some (.ref a), some (.ref b), some (.ref TH), some (.ref D), w]) ∧ (H' a = some (.frz oa (.dK ks)) ∧ ∀ c o, c ≠ a → H c = some o → H' c = some o) ∧ H' TH = some (.dK ts) ∧
        PrsAt H' D (podP (ks.take i) ls) ∧ ∀ p ∈ ks.take i, valV ls p.1 ≠ none)
      ⟨⟨_, rfl⟩, ⟨upd_same, fun c o n e => (upd_ne n).trans ((upd_ne (ne_of_none e hD0)).trans (s1 _ _ e))⟩, (upd_ne nTa).trans ((upd_ne (Ne.symm nDT)).trans t1), ⟨[], (upd_ne nDa).trans upd_same, rfl, fun j t p h => by simp at h⟩, fun p h => by simp at h⟩ (fun i σ H' _ h => h.2.1.1) (fun i x σ H0 H' hi h y => ?_) (fun σ H' h => ?_)
    · obtain ⟨⟨w4, rfl⟩, ⟨f1, f2⟩, f3, ⟨tl, g1, g2, g3⟩, f4⟩ := h
      obtain ⟨rfl, k, v, e6, rfl⟩ := y
      have hTh : DGet H' TH (kV k) (valV ts k) := DGet.k f3
      refine ⟨_, rfl, _, rfl, TH, _, rfl, hTh, _, rfl, ?_⟩
      have es : valV ts k = if valV ls k = none then none else some (kV k) := e5 k
      by_cases no : valV ls k = none
      · rw [if_pos no] at es
        rw [es]
        refine Vl.iteC rfl ⟨f1, ?_⟩
        refine qn (.inr ⟨(k, v), List.mem_of_getElem? e6, no⟩) _ fun c o e => ?_
        by_cases n : c = a
        · subst n
          rw [ha] at e
          cases e
          exact upd_same
        · exact (upd_ne n).trans (f2 c o n e)
      · rw [if_neg no] at es
        rw [es]
        refine Vl.iteN rfl ?_
        obtain ⟨v2, ev2⟩ : ∃ v2, valV ls k = some v2 := by
          cases e : valV ls k with
          | none => exact absurd e no
          | some v2 => exact ⟨v2, rfl⟩
        have nDt : ∀ t o, H' t = some o → (∀ xs, o ≠ .lst xs) → t ≠ D := fun t o e n q => by
          rw [q, g1] at e
          cases e
          exact n _ rfl
        have l2 : tl.length ≤ 200000 := by
          rw [g2, podP_len]
          have := List.length_take_le i ks
          omega
        refine ⟨_, rfl, .inl ⟨rfl, _, SqL.of g1⟩, _, rfl, _, rfl, _, rfl, TH, kV k, rfl, es ▸ hTh, by show 2 ≤ sizeLine; decide, fun t1 ht1 => ?_⟩
        have n1D : t1 ≠ D := fun e => by rw [e, g1] at ht1; cases ht1
        have n1a : t1 ≠ a := fun e => by rw [e, f1] at ht1; cases ht1
        have n1T : t1 ≠ TH := fun e => by rw [e, f3] at ht1; cases ht1
        have g1' : upd H' t1 (.tup [kV k, kV k]) D = some (.lst (tl.map V.ref)) := (upd_ne (Ne.symm n1D)).trans g1
        refine ⟨D, _, _, rfl, rfl, g1', by rw [List.length_map]; exact Nat.lt_of_le_of_lt l2 (by decide), ?_⟩
        generalize hH5 : upd (upd H' t1 (.tup [kV k, kV k])) D (.lst (tl.map V.ref ++ [.ref t1])) = H5
        have k5 : ∀ c o, c ≠ D → H' c = some o → H5 c = some o := fun c o n e => by rw [← hH5, upd_ne n, upd_ne (ne_of_none e ht1)]; exact e
        have d5 : H5 D = some (.lst (tl.map V.ref ++ [.ref t1])) := by rw [← hH5]; exact upd_same
        have t5 : H5 t1 = some (.tup [kV k, kV k]) := by rw [← hH5, upd_ne n1D]; exact upd_same
        clear hH5
        refine ⟨_, rfl, .inl ⟨rfl, _, SqL.of d5⟩, _, rfl, _, rfl, a, v, rfl, .inl ⟨ks, k, .inr ⟨oa, k5 _ _ (Ne.symm nDa) f1⟩, rfl, (find_at nd e6).symm⟩, _, rfl, _, rfl, b, v2, rfl, .inl ⟨ls, k, ?_, rfl, ev2.symm⟩, by show 2 ≤ sizeLine; decide, fun t2 ht2 => ?_⟩
        · by_cases n : b = a
          · subst n
            rw [ha] at hb
            cases hb
            exact .inr ⟨oa, k5 _ _ (Ne.symm nDa) f1⟩
          · have hbD : b ≠ D := fun e => by rw [← e, hb] at hD0; cases hD0
            exact .inl (k5 _ _ hbD (f2 b _ n hb))
        have n2D : t2 ≠ D := fun e => by rw [e, d5] at ht2; cases ht2
        refine ⟨D, _, _, rfl, rfl, (upd_ne (Ne.symm n2D)).trans d5, by rw [List.length_append, List.length_map]; exact Nat.lt_of_le_of_lt (show tl.length + 1 ≤ 200001 by omega) (by decide), ?_⟩
        have k6 : ∀ c o, c ≠ D → H5 c = some o → upd (upd H5 t2 (.tup [v, v2])) D (.lst (tl.map V.ref ++ [.ref t1] ++ [.ref t2])) c = some o := fun c o n e => by rw [upd_ne n, upd_ne (ne_of_none e ht2)]; exact e
        have ea : a ≠ D := Ne.symm nDa
        refine ⟨⟨_, rfl⟩, ⟨k6 _ _ ea (k5 _ _ ea f1), fun c o n e => ?_⟩, k6 _ _ (Ne.symm nDT) (k5 _ _ (Ne.symm nDT) f3), ?_, ?_⟩
        · have nD : c ≠ D := fun q => by rw [q, hD0] at e; cases e
          exact k6 c o nD (k5 c o nD (f2 c o n e))
        · refine ⟨tl ++ [t1, t2], by rw [upd_same]; simp, ?_, fun j t p ej ep => ?_⟩
          · rw [take_succ' e6, podP_snoc, List.length_append, List.length_append, g2]
            rfl
          · rw [take_succ' e6, podP_snoc] at ep
            by_cases lt : j < tl.length
            · rw [List.getElem?_append_left lt] at ej
              rw [List.getElem?_append_left (by omega)] at ep
              have := g3 j t p ej ep
              have nD := nDt t _ this fun xs z => by cases z
              exact k6 t _ nD (k5 t _ nD this)
            · rw [List.getElem?_append_right (by omega)] at ej
              rw [List.getElem?_append_right (by omega), ← g2] at ep
              generalize j - tl.length = m at ej ep
              match m with
              | 0 =>
                simp at ej ep
                subst ej ep
                exact k6 _ _ n1D t5
              | 1 =>
                simp at ej ep
                subst ej ep
                rw [upd_ne n2D, upd_same, ev2]
                rfl
              | n + 2 => simp at ej
        · intro p hp
          rw [take_succ' e6] at hp
          rcases List.mem_append.mp hp with hp | hp
          · exact f4 p hp
          · rw [List.mem_singleton.mp hp]
            exact no
    · obtain ⟨⟨w4, rfl⟩, ⟨f1, f2⟩, f3, pr, f4⟩ := h
      rw [List.take_length] at pr f4
      refine ⟨f1, _, rfl, ?_⟩
      refine qy el f4 D _ (fun c o e => ?_) hD0 ?_
      · by_cases n : c = a
        · subst n
          rw [ha] at e
          cases e
          exact upd_same
        · exact (upd_ne n).trans (f2 c o n e)
      · obtain ⟨tl, g1, g2, g3⟩ := pr
        refine ⟨tl, (upd_ne nDa).trans g1, g2, fun j t p ej ep => ?_⟩
        have := g3 j t p ej ep
        rw [upd_ne fun q => by rw [q, f1] at this; cases this]
        exact this
end
end Dq

set_option Elab.async false
set_option linter.all false
set_option maxRecDepth 100000
set_option maxHeartbeats 4000000
/-! the mathematics of equal -/
namespace Dq
open PySem PySem.Spec PyProof.Rows L2
variable {OB : Type} {O : Obs OB} {K : PySem.W.Frag}
def wts (ps : List (DV OB × DV OB)) : Nat := (ps.map fun p => wt p.1).sum
theorem wts_app (a b : List (DV OB × DV OB)) : wts (a ++ b) = wts a + wts b := by simp [wts]
theorem wt_pos (x : DV OB) : 1 ≤ wt x := by
  cases x <;> simp [wt] <;> omega
theorem wts_len : ∀ ps : List (DV OB × DV OB), ps.length ≤ wts ps
  | [] => Nat.le_refl _
  | p :: ps => by
    have := wts_len ps
    have := wt_pos p.1
    simp only [wts, List.map_cons, List.sum_cons, List.length_cons] at *
    omega
theorem wts_zip : ∀ (l m : List (DV OB)), l.length = m.length → wts (l.zip m) = wtL l
  | [], [], _ => rfl
  | x :: l, y :: m, h => by
    have := wts_zip l m (Nat.succ.inj h)
    simp only [wts, List.zip_cons_cons, List.map_cons, List.sum_cons, wtL] at *
    omega
  | [], _ :: _, h => by cases h
  | _ :: _, [], h => by cases h
theorem wtL_mem : ∀ {l : List (DV OB)} {x : DV OB}, x ∈ l → wt x ≤ wtL l
  | y :: l, x, h => by
    rw [wtL]
    rcases List.mem_cons.mp h with rfl | h
    · omega
    · have := wtL_mem h
      omega
theorem eqD_ty : ∀ (x y : DV OB), tyD O x ≠ tyD O y → eqD O x y = false := fun x y h => by
  cases x <;> cases y <;> simp [tyD, eqD] at h ⊢
  exact fun e => absurd e h
theorem eqL_len : ∀ (l m : List (DV OB)), l.length ≠ m.length → eqL O l m = false
  | [], [], h => absurd rfl h
  | [], _ :: _, _ => by simp [eqL]
  | _ :: _, [], _ => by simp [eqL]
  | x :: l, y :: m, h => by
    rw [eqL, eqL_len l m fun e => h (by simp [e]), Bool.and_false]
theorem eqL_zip : ∀ (l m : List (DV OB)), l.length = m.length → eqL O l m = (l.zip m).all fun p => eqD O p.1 p.2
  | [], [], _ => by simp [eqL]
  | x :: l, y :: m, h => by
    rw [eqL, eqL_zip l m (Nat.succ.inj h)]
    rfl
  | [], _ :: _, h => by cases h
  | _ :: _, [], h => by cases h
/-- the pairs of two maps -/
def pm (js : List Str) (m : List (DV OB)) : List Str → List (DV OB) → List (DV OB × DV OB)
  | k :: ks, x :: l => (.str k, .str k) :: (x, (look js m k).getD .non) :: pm js m ks l
  | _, _ => []
theorem pm_len (js : List Str) (m : List (DV OB)) : ∀ (ks : List Str) (l : List (DV OB)), ks.length = l.length → (pm js m ks l).length = 2 * ks.length
  | [], [], _ => rfl
  | k :: ks, x :: l, h => by
    have := pm_len js m ks l (Nat.succ.inj h)
    show (pm js m ks l).length + 1 + 1 = 2 * (ks.length + 1)
    omega
  | [], _ :: _, h => by cases h
  | _ :: _, [], h => by cases h
theorem pm_wts (js : List Str) (m : List (DV OB)) : ∀ (ks : List Str) (l : List (DV OB)), ks.length = l.length → wts (pm js m ks l) = ks.length + wtL l
  | [], [], _ => rfl
  | k :: ks, x :: l, h => by
    have := pm_wts js m ks l (Nat.succ.inj h)
    have e : wts (pm js m (k :: ks) (x :: l)) = 1 + (wt x + wts (pm js m ks l)) := by simp [pm, wts, wt]
    rw [e, wtL, List.length_cons]
    omega
  | [], _ :: _, h => by cases h
  | _ :: _, [], h => by cases h
theorem look_mem : ∀ {js : List Str} {m : List (DV OB)} {k : Str} {y : DV OB}, look js m k = some y → y ∈ m
  | j :: js, x :: m, k, y, h => by
    rw [look] at h
    split at h
    · cases h
      exact List.mem_cons_self
    · exact List.mem_cons_of_mem _ (look_mem h)
  | [], _, _, _, h => by simp [look] at h
  | _ :: _, [], _, _, h => by simp [look] at h
theorem pm_snd {N : Nat} (hN : 1 ≤ N) (js : List Str) (m : List (DV OB)) (hm : wtL m ≤ N) : ∀ (ks : List Str) (l : List (DV OB)), ∀ p ∈ pm js m ks l, wt p.2 ≤ N
  | [], _, p, h => by simp [pm] at h
  | _ :: _, [], p, h => by simp [pm] at h
  | k :: ks, x :: l, p, h => by
    rw [pm] at h
    rcases List.mem_cons.mp h with rfl | h
    · exact hN
    · rcases List.mem_cons.mp h with rfl | h
      · cases e : look js m k with
        | none => exact hN
        | some y => exact Nat.le_trans (wtL_mem (look_mem e)) hm
      · exact pm_snd hN js m hm ks l p h
theorem eqM_pm (js : List Str) (m : List (DV OB)) : ∀ (ks : List Str) (l : List (DV OB)), ks.length = l.length → (∀ k ∈ ks, look js m k ≠ none) → eqM O ks l js m = (pm js m ks l).all fun p => eqD O p.1 p.2
  | [], [], _, _ => by simp [eqM, pm]
  | k :: ks, x :: l, h, hk => by
    have ih := eqM_pm js m ks l (Nat.succ.inj h) fun k' h' => hk k' (List.mem_cons_of_mem _ h')
    cases e : look js m k with
    | none => exact absurd e (hk k List.mem_cons_self)
    | some y => simp [eqM, pm, e, ih, eqD]
  | [], _ :: _, h, _ => by cases h
  | _ :: _, [], h, _ => by cases h
theorem eqM_no (js : List Str) (m : List (DV OB)) : ∀ (ks : List Str) (l : List (DV OB)), ks.length = l.length → (∃ k ∈ ks, look js m k = none) → eqM O ks l js m = false
  | [], [], _, ⟨k, h, _⟩ => by cases h
  | k :: ks, x :: l, h, ⟨z, hz, e⟩ => by
    rcases List.mem_cons.mp hz with rfl | hz
    · simp [eqM, e]
    · have ih := eqM_no js m ks l (Nat.succ.inj h) ⟨z, hz, e⟩
      simp [eqM, ih]
  | [], _ :: _, h, _ => by cases h
  | _ :: _, [], h, _ => by cases h
theorem look_val {H : Hp} {k : Str} : ∀ {js : List Str} {m : List (DV OB)} {ls : List (Key × V)}, ls.map (·.1) = js.map Sum.inr → DvL O H m (ls.map (·.2)) → (look js m k = none ∧ valV ls (.inr k) = none) ∨ ∃ y v, look js m k = some y ∧ valV ls (.inr k) = some v ∧ Dv O H y v
  | [], m, [], _, _ => .inl ⟨by simp [look], rfl⟩
  | [], _, _ :: _, h, _ => by cases h
  | _ :: _, _, [], h, _ => by cases h
  | j :: js, [], q :: ls, _, h => by cases h
  | j :: js, x :: m, q :: ls, h, ⟨u, us, e, hu, hp⟩ => by
    simp only [List.map_cons, List.cons.injEq] at h e
    obtain ⟨h1, h2⟩ := h
    obtain ⟨e1, e2⟩ := e
    subst e1
    by_cases z : k = j
    · subst z
      exact .inr ⟨x, q.2, by simp [look], valV_pos h1, hu⟩
    · have nq : ¬ q.1 = Sum.inr k := fun e => z (by rw [h1] at e; exact (Sum.inr.inj e).symm)
      rw [look, if_neg z, valV_neg nq]
      exact look_val h2 (e2 ▸ hp)
theorem pm_at {H : Hp} {js : List Str} {m : List (DV OB)} {ls : List (Key × V)} (hj : ls.map (·.1) = js.map Sum.inr) (hm : DvL O H m (ls.map (·.2))) : ∀ {ks : List Str} {l : List (DV OB)} {kvs : List (Key × V)}, kvs.map (·.1) = ks.map Sum.inr → DvL O H l (kvs.map (·.2)) →
    ∀ (j : Nat) (p : DV OB × DV OB) (q : V × V), (pm js m ks l)[j]? = some p → (podP kvs ls)[j]? = some q → (∀ k ∈ ks, look js m k ≠ none) → Dv O H p.1 q.1 ∧ Dv O H p.2 q.2
  | [], _, _, _, _, j, p, q, h, _, _ => by simp [pm] at h
  | _ :: _, [], _, _, _, j, p, q, h, _, _ => by simp [pm] at h
  | _ :: _, _ :: _, [], h, _, _, _, _, _, _, _ => by cases h
  | k :: ks, x :: l, r :: kvs, h, ⟨u, us, e, hu, hp⟩, j, p, q, g1, g2, hk => by
    simp only [List.map_cons, List.cons.injEq] at h e
    obtain ⟨h1, h2⟩ := h
    obtain ⟨e1, e2⟩ := e
    subst e1
    rw [pm] at g1
    rw [podP] at g2
    match j with
    | 0 =>
      simp only [List.getElem?_cons_zero, Option.some.injEq] at g1 g2
      subst g1 g2
      have e : kV r.1 = V.str k := by
        show kV (r.1) = _
        rw [h1]
        rfl
      rw [e]
      exact ⟨rfl, rfl⟩
    | 1 =>
      simp only [List.getElem?_cons_succ, List.getElem?_cons_zero, Option.some.injEq] at g1 g2
      subst g1 g2
      refine ⟨hu, ?_⟩
      rcases look_val (k := k) hj hm with ⟨a, _⟩ | ⟨y, v, a, b, c⟩
      · exact absurd a (hk k List.mem_cons_self)
      · rw [show (r.1 : Key) = Sum.inr k from h1, a, b]
        exact c
    | j + 2 =>
      simp only [List.getElem?_cons_succ] at g1 g2
      exact pm_at hj hm h2 (e2 ▸ hp) j p q g1 g2 fun k' h' => hk k' (List.mem_cons_of_mem _ h')
/-- two rows of one sort -/
theorem seqs (ok : ObsOk K O) {H : Hp} {x y : DV OB} {v u : V} (hx : Dv O H x v) (hy : Dv O H y u) (et : tyD O x = tyD O y) (hs : isSeq x = true) : ∃ a b us ws l m, v = .ref a ∧ u = .ref b ∧ ((SqT K H a us ∧ SqT K H b ws) ∨ (H a = some (.lst us) ∧ H b = some (.lst ws))) ∧ DvL O H l us ∧ DvL O H m ws ∧ eqD O x y = eqL O l m ∧ wt x = 1 + wtL l ∧ wt y = 1 + wtL m := by
  cases x <;> cases y <;> simp [tyD, isSeq] at et hs
  · obtain ⟨a, us, rfl, ha, p⟩ := hx
    obtain ⟨b, ws, rfl, hb, q⟩ := hy
    exact ⟨a, b, us, ws, _, _, rfl, rfl, .inl ⟨ok.kk ▸ ha, ok.kk ▸ hb⟩, p, q, by rw [eqD], by rw [wt], by rw [wt]⟩
  · obtain ⟨a, us, rfl, ha, p⟩ := hx
    obtain ⟨b, ws, rfl, hb, q⟩ := hy
    exact ⟨a, b, us, ws, _, _, rfl, rfl, .inr ⟨ha, hb⟩, p, q, by rw [eqD], by rw [wt], by rw [wt]⟩
end Dq

set_option Elab.async false
set_option linter.all false
set_option maxRecDepth 100000
set_option maxHeartbeats 4000000
/-! the program's equal -/
namespace Dq
open PySem PySem.Spec PyProof.Rows L2
abbrev sEqual : Stmt := Pf.top 1
def spEqual {OB : Type} (O : Obs OB) : Sp := fun vs H Q _ => ∃ (v u : V) (x y : DV OB), vs = [v, u] ∧ Dv O H x v ∧ Dv O H y u ∧ wt x ≤ 90000 ∧ wt y ≤ 90000 ∧ ∀ H', Same H H' → Q (.bl (eqD O x y)) H'
abbrev NEqual : List Str := ["one", "other", "waiting", "left", "right", "pairs"]
theorem scEqual : FnScope NEqual ["one", "other"] (defScope sEqual) := ⟨rfl, rfl, rfl, by decide +kernel, rfl, by decide +kernel, by decide +kernel⟩
/-- the own == of the objects, called by equal -/
structure ObEq {OB : Type} (P : Program) (w : World) (K : PySem.W.Frag) (mg : Str → Option Value) (base : Heap) (k : Nat) (O : Obs OB) : Prop where
  op : ∀ {X : Cx}, X.prog = P → X.w = w → X.K = K → X.mg = mg → X.base = base → Room k X.A → OpR X (compareOp .Eq) (rOb O)
/-- the pairs that wait in the list at W -/
structure Wait {OB : Type} (O : Obs OB) (H H' : Hp) (W : Addr) (N : Nat) (ts : List Addr) (ps : List (DV OB × DV OB)) : Prop where
  same : Same H H'
  new : H W = none
  lst : H' W = some (.lst (ts.map V.ref))
  len : ts.length = ps.length
  at_ : ∀ (j : Nat) (t : Addr) (p : DV OB × DV OB), ts[j]? = some t → ps[j]? = some p → ∃ a b, H' t = some (.tup [a, b]) ∧ Dv O H p.1 a ∧ Dv O H p.2 b
  wt1 : wts ps ≤ N
  wt2 : ∀ p ∈ ps, wt p.2 ≤ N
theorem Wait.put {OB : Type} {O : Obs OB} {H H2 H5 : Hp} {W : Addr} {N : Nat} {ts t5 : List Addr} {ps p5 : List (DV OB × DV OB)} (x : Wait O H H2 W N ts ps) (k : Same H2 H5) (hl : t5.length = p5.length) (ha : ∀ (j : Nat) (t : Addr) (p : DV OB × DV OB), t5[j]? = some t → p5[j]? = some p → ∃ a b, H5 t = some (.tup [a, b]) ∧ Dv O H p.1 a ∧ Dv O H p.2 b)
    (h1 : wts ps + wts p5 ≤ N) (h2 : ∀ p ∈ p5, wt p.2 ≤ N) : Wait O H (upd H5 W (.lst (ts.map V.ref ++ t5.map V.ref))) W N (ts ++ t5) (ps ++ p5) := by
  have nW : ∀ t o, H5 t = some o → (∀ xs, o ≠ .lst xs) → upd H5 W (.lst (ts.map V.ref ++ t5.map V.ref)) t = some o := fun t o e n => by
    rw [upd_ne fun q => by
      rw [q, k _ _ x.lst] at e
      cases e
      exact n _ rfl]
    exact e
  refine ⟨fun c o e => ?_, x.new, by rw [upd_same, List.map_append], by rw [List.length_append, List.length_append, x.len, hl], fun j t p ej ep => ?_, by rw [wts_app]; exact h1, fun p hp => ?_⟩
  · rw [upd_ne fun q => by rw [q, x.new] at e; cases e]
    exact k _ _ (x.same _ _ e)
  · by_cases lt : j < ts.length
    · rw [List.getElem?_append_left lt] at ej
      rw [List.getElem?_append_left (by rw [← x.len]; exact lt)] at ep
      obtain ⟨a, b, e1, e2⟩ := x.at_ j t p ej ep
      exact ⟨a, b, nW _ _ (k _ _ e1) (fun _ z => by cases z), e2⟩
    · have ge : ts.length ≤ j := Nat.le_of_not_lt lt
      rw [List.getElem?_append_right ge] at ej
      rw [List.getElem?_append_right (by rw [← x.len]; exact ge), ← x.len] at ep
      obtain ⟨a, b, e1, e2⟩ := ha _ t p ej ep
      exact ⟨a, b, nW _ _ e1 (fun _ z => by cases z), e2⟩
  · rcases List.mem_append.mp hp with hp | hp
    · exact x.wt2 p hp
    · exact h2 p hp
section
variable {OB : Type} {O : Obs OB} {P : Program} {w : World} {K : PySem.W.Frag} {mg : Str → Option Value} {base : Heap}
theorem ok_equal {n : Nat} (hn : 1 ≤ n) {f fP : Addr} {fd fdP : FuncData} (F : Fun K "equal" "equal" sEqual f fd) (T : TxtE mg) (ok : ObsOk K O) (oe : ObEq P w K mg base n O) (DP : Vl.Def P w K mg base 1 "_pairs_of_dicts" fP fdP ["one", "other"] spPod) : FnOk P w K mg base CX0 (n + 1) f fd ["one", "other"] (spEqual O) := by
  refine F.ok scEqual (fun vs H Q E h => ?_) (fun cdv A outer s H vs Q E hr h => ?_)
  · obtain ⟨v, u, x, y, rfl, _⟩ := h
    rfl
  · obtain ⟨v, u, x, y, rfl, hx, hy, wx, wy, k⟩ := h
    refine ⟨_, (pss_cons (ps_set (i := 2) scEqual.nd rfl (Or.inl rfl) (pe_lst (pa_cons (pe_tup (pa_cons (pv 0) (pa_cons (pv 1) pa_nil))) pa_nil)))
      (pss_cons (ps_while PassesOwn.never (pt_truth (pv 2) (by intro _; rfl))
        (pss_cons (ps_asg (pe_bm0 PySem.F.plainAttrs_list PySem.F.slot_list_pop PySem.F.type_list_pop mt_pop (pv 2)) (pg_tup rfl (pgs_cons (pg_name (i := 3) scEqual.nd rfl (Or.inl rfl)) (pgs_cons (pg_name (i := 4) scEqual.nd rfl (Or.inl rfl)) pgs_nil))))
        (pss_cons (ps_if (pt_not (pt_cmpR (op_isD ok) (pe_callTy (call_tyD ok) (by rfl) T.type (by decide +kernel) (pa_cons (pv 3) pa_nil)) (pe_callTy (call_tyD ok) (by rfl) T.type (by decide +kernel) (pa_cons (pv 4) pa_nil)) (nomark _))) (pss_one (ps_ret pe_bl)) pss_nil)
        (pss_one (ps_if (pt_val (pe_callB (call_isTL ok) (by rfl) T.isi (by decide +kernel) (pa_cons (pv 3) (pa_cons (pe_tup (pa_cons (pe_bltn (v := .ty "tuple") (by rfl) T.tuple (by decide +kernel) rfl) (pa_cons (pe_bltn (v := .ty "list") (by rfl) T.list (by decide +kernel) rfl) pa_nil))) pa_nil))))
          (pss_cons (ps_if (pt_cmpR op_ne (pe_callB call_len_seq (by rfl) T.len PySem.boot_len (pa_cons (pv 3) pa_nil)) (pe_callB call_len_seq (by rfl) T.len PySem.boot_len (pa_cons (pv 4) pa_nil)) (nomark _)) (pss_one (ps_ret pe_bl)) pss_nil)
          (pss_one (ps_expr (pe_bm PySem.F.plainAttrs_list PySem.F.slot_list_extend PySem.F.type_list_extend mt_extend (pv 2) (pa_cons (Lz.pe_listZip rfl (pa_cons (pv 3) (pa_cons (pv 4) pa_nil)) (by rfl) T.list (by rfl) T.zip) pa_nil)))))
          (pss_one (ps_if (pt_val (pe_callB (call_isD ok) (by rfl) T.isi (by decide +kernel) (pa_cons (pv 3) (pa_cons (pe_bltn (v := .ty "dict") (by rfl) T.dict (by decide +kernel) rfl) pa_nil))))
            (pss_cons (ps_set (i := 5) scEqual.nd rfl (Or.inl rfl) (pe_call DP.ok (hr.mono hn) rfl DP.g DP.kp DP.b .nil pass0 (pa_cons (pv 3) (pa_cons (pv 4) pa_nil))))
            (pss_cons (ps_if (pt_cmpR op_isN (pv 5) pe_non (nomark _)) (pss_one (ps_ret pe_bl)) pss_nil)
            (pss_one (ps_expr (pe_bm PySem.F.plainAttrs_list PySem.F.slot_list_extend PySem.F.type_list_extend mt_extend (pv 2) (pa_cons (pv 5) pa_nil))))))
            (pss_one (ps_if (pt_not (pt_cmpR (op_leaf hr.units (oe.op rfl rfl rfl rfl rfl hr)) (pv 3) (pv 4) (nomark _))) (pss_one (ps_ret pe_bl)) pss_nil)))))))))
      (pss_one (ps_ret pe_bl)))), ?_⟩
    have fin : ∀ H', Same H H' → ∀ b, eqD O x y = b → Q (.bl b) H' := fun H' k' b e => e ▸ k H' k'
    refine ⟨_, rfl, _, rfl, by show 2 ≤ sizeLine; decide, fun t ht => ⟨by show 1 ≤ sizeLine; decide, fun W hW => ?_⟩⟩
    have ntW : t ≠ W := fun e => by rw [← e, upd_same] at hW; cases hW
    have hW0 : H W = none := by rwa [upd_ne (Ne.symm ntW)] at hW
    have w0 : Wait O H (upd (upd H t (.tup [v, u])) W (.lst [.ref t])) W 90000 [t] [(x, y)] := by
      refine ⟨fun c o e => by rw [upd_ne (ne_of_none e hW0), upd_ne (ne_of_none e ht)]; exact e, hW0, upd_same, rfl, fun j t' p ej ep => ?_, by simpa [wts] using wx, fun p hp => by rw [List.mem_singleton.mp hp]; exact wy⟩
      match j with
      | 0 =>
        simp at ej ep
        subst ej ep
        exact ⟨v, u, (upd_ne ntW).trans upd_same, hx, hy⟩
      | j + 1 => simp at ej
    refine ⟨fun m σ H' => ∃ ts ps w3 w4 w5, m = wts ps ∧ σ = [some v, some u, some (.ref W), w3, w4, w5] ∧ Wait O H H' W 90000 ts ps ∧ eqD O x y = ps.all fun p => eqD O p.1 p.2, ⟨_, [t], [(x, y)], _, _, _, rfl, rfl, w0, by simp⟩, ?_⟩
    rintro m σ H' ⟨ts, ps, w3, w4, w5, rfl, rfl, wa, er⟩
    rcases List.eq_nil_or_concat ps with rfl | ⟨ps', p, rfl⟩
    · have e0 : ts = [] := List.eq_nil_of_length_eq_zero wa.len
      subst e0
      refine ⟨_, rfl, false, .inl ⟨_, SqL.of wa.lst, rfl⟩, ?_⟩
      exact fin H' wa.same _ er
    obtain ⟨ts', tl, rfl⟩ : ∃ ts' tl, ts = ts' ++ [tl] := by
      rcases List.eq_nil_or_concat ts with rfl | ⟨a, b, e⟩
      · have := wa.len
        simp at this
      · exact ⟨a, b, e.trans (List.concat_eq_append ..)⟩
    rw [List.concat_eq_append] at *
    have hl' : ts'.length = ps'.length := by
      have := wa.len
      simpa using this
    obtain ⟨a, b, ht2, d1, d2⟩ := wa.at_ ts'.length tl p (by simp) (by rw [hl']; simp)
    have hWl : H' W = some (.lst (ts'.map V.ref ++ [.ref tl])) := by rw [wa.lst]; simp
    refine ⟨_, rfl, true, .inl ⟨_, SqL.of hWl, by simp⟩, fun σ' H2 => ∃ m', m' < wts (ps' ++ [p]) ∧ ∃ ts ps w3 w4 w5, m' = wts ps ∧ σ' = [some v, some u, some (.ref W), w3, w4, w5] ∧ Wait O H H2 W 90000 ts ps ∧ eqD O x y = ps.all fun p => eqD O p.1 p.2, fun σ' H2 h => h, ?_⟩
    refine ⟨_, rfl, .inl ⟨rfl, _, SqL.of hWl⟩, W, _, .ref tl, rfl, rfl, hWl, by simp, ?_⟩
    rw [List.dropLast_concat]
    have ntl : tl ≠ W := fun e => by rw [e, hWl] at ht2; cases ht2
    have er' : eqD O x y = ((ps'.all fun p => eqD O p.1 p.2) && eqD O p.1 p.2) := by rw [er]; simp
    have wp : wts (ps' ++ [p]) = wts ps' + wt p.1 := by rw [wts_app]; simp [wts]
    have wp1 : wts ps' + wt p.1 ≤ 90000 := wp ▸ wa.wt1
    have wp2 : wt p.2 ≤ 90000 := wa.wt2 p (by simp)
    have wb : Wait O H (upd H' W (.lst (ts'.map V.ref))) W 90000 ts' ps' := by
      refine ⟨fun c o e => ?_, wa.new, upd_same, hl', fun j t p ej ep => ?_, by omega, fun p hp => wa.wt2 p (List.mem_append_left _ hp)⟩
      · rw [upd_ne (ne_of_none e wa.new)]
        exact wa.same _ _ e
      · obtain ⟨a, b, e1, e2⟩ := wa.at_ j t p (by rw [List.getElem?_append_left (List.getElem?_eq_some_iff.mp ej).1]; exact ej) (by rw [List.getElem?_append_left (List.getElem?_eq_some_iff.mp ep).1]; exact ep)
        refine ⟨a, b, ?_, e2⟩
        rw [upd_ne fun q => by rw [q, hWl] at e1; cases e1]
        exact e1
    have ht3 : upd H' W (.lst (ts'.map V.ref)) tl = some (.tup [a, b]) := (upd_ne ntl).trans ht2
    clear wa hWl ht2 w0 hW
    generalize upd H' W (.lst (ts'.map V.ref)) = H2 at wb ht3
    refine ⟨tl, _, rfl, SqT.of ht3, rfl, _, _, rfl, _, _, rfl, rfl, ?_⟩
    have D1 := d1.keep ok wb.same
    have D2 := d2.keep ok wb.same
    refine ⟨_, rfl, _, p.1, rfl, D1, _, rfl, _, p.2, rfl, D2, p.1, p.2, rfl, rfl, _, rfl, ?_⟩
    by_cases et : tyD O p.1 = tyD O p.2
    case neg =>
      refine Vl.iteC (by simp [et]) ?_
      exact fin H2 wb.same _ (by rw [er', eqD_ty _ _ et, Bool.and_false])
    refine Vl.iteN (by simp [et]) ?_
    refine ⟨_, rfl, by show 2 ≤ sizeLine; decide, fun tp htp => ⟨_, tp, p.1, rfl, upd_same, D1.keep ok (Vl.sm_upd htp), _, rfl, ?_⟩⟩
    have k3 : Same H2 (upd H2 tp (.tup [.ty "tuple", .ty "list"])) := Vl.sm_upd htp
    have sm3 := Same.trans wb.same k3
    have E1 := d1.keep ok sm3
    have E2 := d2.keep ok sm3
    generalize upd H2 tp (.tup [.ty "tuple", .ty "list"]) = H3 at k3 sm3 E1 E2
    by_cases hs : isSeq p.1 = true
    · refine Vl.iteC hs ?_
      obtain ⟨a', b', us, ws, l, m, rfl, rfl, hab, dl, dm, ee, e1, e2⟩ := seqs ok E1 E2 et hs
      obtain ⟨a2, b2, us2, ws2, l2, m2, ea, eb, hT2, dl2, dm2, ee2, e12, e22⟩ := seqs ok d1 d2 et hs
      cases ea
      cases eb
      have luo := dl2.len
      have lwo := dm2.len
      have hq : ∀ H', Same H H' → ((SqT K H' a' us2 ∧ SqT K H' b' ws2) ∨ (SqL K H' a' us2 ∧ SqL K H' b' ws2)) := fun H' k' => by
        rcases hT2 with ⟨h1, h2⟩ | ⟨h1, h2⟩
        · exact .inl ⟨SqT.same h1 k', SqT.same h2 k'⟩
        · exact .inr ⟨SqL.of (k' _ _ h1), SqL.of (k' _ _ h2)⟩
      have hq3 := hq H3 sm3
      refine ⟨_, rfl, a', us2, rfl, hq3.elim (fun z => .inr z.1) (fun z => .inl z.1), _, rfl, b', ws2, rfl, hq3.elim (fun z => .inr z.2) (fun z => .inl z.2), rfl, _, rfl, ?_⟩
      by_cases le : us2.length = ws2.length
      case neg =>
        refine Vl.iteC (by simp; omega) ?_
        exact fin H3 sm3 _ (by rw [er', ee2, eqL_len l2 m2 (by omega), Bool.and_false])
      refine Vl.iteN (by simp [le]) ?_
      refine ⟨_, rfl, .inl ⟨rfl, _, SqL.of (k3 _ _ wb.lst)⟩, _, rfl, _, rfl, a', b', us2, ws2, rfl, hq3, le, fun H5 D ds z => ?_⟩
      obtain ⟨z1, z2, z3, z4, z5, z6, z7⟩ := z
      have wL : wts (l2.zip m2) = wtL l2 := wts_zip l2 m2 (by omega)
      have lenb := wts_len ps'
      have lenl := wts_len (l2.zip m2)
      have lz : (l2.zip m2).length = l2.length := by rw [List.length_zip]; omega
      refine ⟨W, D, _, _, rfl, rfl, z1 _ _ (k3 _ _ wb.lst), z5, by rw [List.length_map, List.length_map]; exact Nat.le_trans (show ts'.length + ds.length ≤ 90000 by omega) (by decide), ?_⟩
      refine ⟨_, ?_, ts' ++ ds, ps' ++ l2.zip m2, _, _, _, rfl, rfl, wb.put (Same.trans k3 z1) (by omega) (fun j t q ej ep => ?_) (by omega) (fun q hq => ?_), ?_⟩
      · rw [wp, wts_app, wL]
        omega
      · obtain ⟨x0, y0, f1, f2, f3⟩ := z7 j t ej
        obtain ⟨g1, g2⟩ := List.getElem?_zip_eq_some.mp ep
        exact ⟨x0, y0, f3, dl2.at g1 f1, dm2.at g2 f2⟩
      · have := wtL_mem (List.of_mem_zip hq).2
        omega
      · rw [er', ee2, eqL_zip l2 m2 (by omega), List.all_append]
    refine Vl.iteN ((Bool.not_eq_true _).mp hs) ?_
    refine ⟨_, rfl, _, p.1, rfl, E1, _, rfl, ?_⟩
    by_cases hm : isMap p.1 = true
    · refine Vl.iteC hm ?_
      obtain ⟨ks, l, e1⟩ : ∃ ks l, p.1 = .map ks l := by
        cases e : p.1 <;> rw [e] at hm <;> simp [isMap] at hm
        exact ⟨_, _, rfl⟩
      obtain ⟨js, m, e2⟩ : ∃ js m, p.2 = .map js m := by
        rw [e1] at et
        cases e : p.2 <;> rw [e] at et <;> simp [tyD] at et
        exact ⟨_, _, rfl⟩
      rw [e1] at d1
      rw [e2] at d2
      obtain ⟨a1, kvs, rfl, ha, nd, hk, dl⟩ := d1
      obtain ⟨b1, lvs, rfl, hb, nd2, hj, dm⟩ := d2
      have q1 : wt p.1 = 1 + ks.length + wtL l := by rw [e1, wt]
      have q2 : wt p.2 = 1 + js.length + wtL m := by rw [e2, wt]
      have lk : kvs.length = ks.length := by have := congrArg List.length hk; simpa using this
      have lj : lvs.length = js.length := by have := congrArg List.length hj; simpa using this
      have ll : ks.length = l.length := by have := dl.len; rw [List.length_map] at this; omega
      have ee : eqD O p.1 p.2 = (decide (ks.length = js.length) && eqM O ks l js m) := by rw [e1, e2, eqD]
      have ndk : (kvs.map (·.1)).Nodup := by
        rw [hk]
        exact List.Pairwise.map _ (fun a b h z => h (Sum.inr.inj z)) nd
      have mk : ∀ (k : Key), k ∈ kvs.map (·.1) ↔ ∃ z ∈ ks, k = Sum.inr z := fun k => by
        rw [hk]
        simp [eq_comm]
      refine ⟨_, rfl, _, rfl, a1, b1, kvs, lvs, rfl, sm3 _ _ ha, sm3 _ _ hb, ndk, by omega, by omega, fun no H5 k5 => ?_, fun yl yk D H5 k5 hD pr => ?_⟩
      · refine ⟨_, rfl, rfl, _, rfl, Vl.iteC (by simp) ?_⟩
        refine fin H5 (Same.trans sm3 k5) _ ?_
        rw [er', ee]
        rcases no with no | ⟨q, hq, hv⟩
        · rw [decide_eq_false (by omega)]
          simp
        · obtain ⟨z, hz, eq⟩ := (mk q.1).mp (List.mem_map_of_mem (f := (·.1)) hq)
          rcases look_val (O := O) (k := z) hj dm with ⟨c1, _⟩ | ⟨_, _, _, c2, _⟩
          · rw [eqM_no js m ks l ll ⟨z, hz, c1⟩]
            simp
          · rw [eq, c2] at hv
            cases hv
      · refine ⟨_, rfl, rfl, _, rfl, Vl.iteN (by simp) ?_⟩
        have hall : ∀ k ∈ ks, look js m k ≠ none := fun k hk' e => by
          obtain ⟨q, hq, eq⟩ := List.mem_map.mp ((mk (Sum.inr k)).mpr ⟨k, hk', rfl⟩)
          rcases look_val (O := O) (k := k) hj dm with ⟨_, c1⟩ | ⟨_, _, c2, _, _⟩
          · exact yk q hq (by rw [eq]; exact c1)
          · rw [c2] at e
            cases e
        obtain ⟨ds, r1, r2, r3⟩ := pr
        have hW5 := k5 _ _ (k3 _ _ wb.lst)
        have lp := podP_len kvs lvs
        have pl := pm_len js m ks l ll
        have pw := pm_wts js m ks l ll
        have lenb := wts_len ps'
        refine ⟨_, rfl, .inl ⟨rfl, _, SqL.of hW5⟩, _, rfl, W, D, _, _, rfl, rfl, hW5, r1, by rw [List.length_map, List.length_map]; exact Nat.le_trans (show ts'.length + ds.length ≤ 300000 by omega) (by decide), ?_⟩
        refine ⟨_, ?_, ts' ++ ds, ps' ++ pm js m ks l, _, _, _, rfl, rfl, wb.put (Same.trans k3 k5) (by omega) (fun j t q ej ep => ?_) (by omega) (fun q hq => ?_), ?_⟩
        · rw [wp, wts_app, pw]
          omega
        · have hj2 : j < (podP kvs lvs).length := by
            have := (List.getElem?_eq_some_iff.mp ej).1
            omega
          have eq := List.getElem?_eq_getElem hj2
          obtain ⟨c1, c2⟩ := pm_at hj dm hk dl j q _ ep eq hall
          exact ⟨_, _, r3 j t _ ej eq, c1, c2⟩
        · exact pm_snd (by decide) js m (by omega) ks l q hq
        · rw [er', ee, decide_eq_true (by omega), Bool.true_and, eqM_pm js m ks l ll hall, List.all_append]
    refine Vl.iteN ((Bool.not_eq_true _).mp hm) ?_
    refine ⟨_, rfl, _, rfl, p.1, p.2, E1, E2, et, (Bool.not_eq_true _).mp hs, (Bool.not_eq_true _).mp hm, fun H5 k5 => ⟨_, rfl, ?_⟩⟩
    have sm5 := Same.trans sm3 k5
    cases ev : eqD O p.1 p.2 with
    | false => exact fin H5 sm5 _ (by rw [er', ev, Bool.and_false])
    | true =>
      have wpo := wt_pos p.1
      refine ⟨_, ?_, ts', ps', _, _, _, rfl, rfl, ?_, by rw [er', ev, Bool.and_true]⟩
      · rw [wp]
        omega
      · have := wb.put (t5 := []) (p5 := []) (Same.trans k3 k5) rfl (fun j t q ej _ => by simp at ej) (by simpa [wts] using wb.wt1) (fun q hq => by cases hq)
        simp only [List.map_nil, List.append_nil] at this
        have e5 : upd H5 W (.lst (ts'.map V.ref)) = H5 := by
          funext c
          by_cases n : c = W
          · rw [n, upd_same]
            exact (Same.trans k3 k5 _ _ wb.lst).symm
          · exact upd_ne n
        rwa [e5] at this
end
end Dq

set_option Elab.async false
set_option linter.all false
set_option maxRecDepth 100000
set_option maxHeartbeats 4000000
/-! rules with two readings; comprehensions whose turns give what is known -/
namespace Vl
open PySem PySem.Spec PyProof.Rows L2 Dq
theorem SqL.same {K : PySem.W.Frag} {H H' : Hp} {a : Addr} {xs : List V} (h : SqL K H a xs) (e : Same H H') : SqL K H' a xs :=
  h.elim (fun h => .inl (h.elim (fun h => .inl (e _ _ h)) fun ⟨o, h⟩ => .inr ⟨o, e _ _ h⟩)) fun h => .inr h
end Vl
namespace Kd
open PySem PySem.Spec PyProof.Rows L2 Dq Vl
theorem pi_or {X : Cx} {tg l : Expr} {w1 w2 : TI} (h1 : PI X tg l w1) (h2 : PI X tg l w2) : PI X tg l (fun σ H R => w1 σ H R ∨ w2 σ H R) :=
  ⟨fun pins s σ H R I h => h.elim (fun h => h1.run pins s σ H R I h) fun h => h2.run pins s σ H R I h⟩
theorem call_or {X : Cx} {f : Value} {r r' : List V → Hp → VK → Prop} (h : CallR X f r) (h' : CallR X f r') : CallR X f (fun x H Q => r x H Q ∨ r' x H Q) := fun pins s σ H xs us Q I r hh => hh.elim (fun z => h pins s σ H xs us Q I r z) fun z => h' pins s σ H xs us Q I r z
theorem op_or {X : Cx} {op : Value → Value → Sem Value} {r r' : R2} (h : OpR X op r) (h' : OpR X op r') : OpR X op (fun x y H Q => r x y H Q ∨ r' x y H Q) := fun pins s σ H x y v u Q I rx ry hh => hh.elim (fun z => h pins s σ H x y v u Q I rx ry z) fun z => h' pins s σ H x y v u Q I rx ry z
/-- the reading of a comprehension without tests whose turns give out 0, out 1, .. -/
theorem lc_out {J : It} {n : Nat} {G : Hp → Prop} {Y : Nat → Hp → V → Hp → Prop} (w : Walk J n G Y) {g : TG} {te : TE} {vs : List Nat} {σ : L2.St} {H1 : Hp} {D : Addr} {Qd : Hp → Prop} (hD : H1 D = none) (out : Nat → V) (hn : n < sizeLine) (hG : ∀ H, Same H1 H → G H)
    (hs : ∀ i x H H' (N : V → Hp → Prop), i < n → Same H1 H → Y i H x H' → (∀ H4, Same H H4 → N (out i) H4) → g x (wipe σ vs) H' fun σ2 H2 => wipe σ2 vs = wipe σ vs ∧ te σ2 H2 N)
    (hd : ∀ H, Same H1 H → H D = some (.lst ((List.range n).map out)) → Qd H) :
    ∃ W : Nat → Nat → Hp → Prop, (∃ m, W 0 m (upd H1 D (.lst []))) ∧ ∀ i m H, W i m H →
      (J.stop i H ∧ Qd H) ∨ (J.go i H ∧ ∃ Nx : Hp → Prop, (∀ H', Nx H' → ∃ m', m' < m ∧ W (i + 1) m' H') ∧ ∀ x H', J.yld i H x H' → g x (wipe σ vs) H' fun σ2 H2 => wipe σ2 vs = wipe σ vs ∧ tYes σ2 H2 fun b H3 =>
        if b = true then te σ2 H3 fun y H4 => ∃ acc, H4 D = some (.lst acc) ∧ acc.length < sizeLine ∧ Nx (upd H4 D (.lst (acc ++ [y]))) else Nx H3) := by
  refine lc_it w (fun i H => Same H1 H ∧ H D = some (.lst ((List.range i).map out))) ⟨sm_upd hD, upd_same⟩ (fun i H _ h => hG H h.1) (fun i x H H' hi h y => ?_) (fun H h => hd H h.1 h.2)
  have e : ∀ (N : V → Hp → Prop) (M : Hp → Prop), (fun (σ2 : L2.St) (H2 : Hp) => wipe σ2 vs = wipe σ vs ∧ tYes σ2 H2 fun b H3 => if b = true then te σ2 H3 N else M H3) = (fun σ2 H2 => wipe σ2 vs = wipe σ vs ∧ te σ2 H2 N) := fun N M => funext fun σ2 => funext fun H2 => by
    show (_ ∧ (if true = true then te σ2 H2 N else M H2)) = _
    rw [if_pos rfl]
  rw [e]
  refine hs i x H H' _ hi h.1 y fun H4 k => ?_
  refine ⟨_, k _ _ h.2, ?_, ?_, ?_⟩
  · rw [List.length_map, List.length_range]
    omega
  · intro b o eb
    have nb : b ≠ D := fun z => by rw [z, hD] at eb; cases eb
    rw [upd_ne nb]
    exact k b o (h.1 b o eb)
  · rw [upd_same, List.range_succ, List.map_append]
    rfl
theorem range_map {α : Type} {β : Type} (f : α → β) (g : Nat → β) : ∀ (l : List α), (∀ i a, l[i]? = some a → g i = f a) → (List.range l.length).map g = l.map f := fun l h => by
  refine List.ext_getElem? fun i => ?_
  rw [List.getElem?_map, List.getElem?_map]
  by_cases hi : i < l.length
  · rw [List.getElem?_range hi, List.getElem?_eq_getElem hi]
    exact congrArg some (h i _ (List.getElem?_eq_getElem hi))
  · rw [List.getElem?_eq_none (by simpa using hi), List.getElem?_eq_none (by simpa using hi)]
    rfl
end Kd

set_option Elab.async false
set_option linter.all false
set_option maxRecDepth 100000
set_option maxHeartbeats 4000000
/-! what kinds ask of values: names, texts that are different -/
namespace Kd
open PySem PySem.Spec PyProof.Rows L2 Dq Vl
/-- objects that are no text, tuple, bool; od: a dict -/
structure Tw {OB : Type} (K : PySem.W.Frag) (O : Obs OB) (od : OB → Bool) : Prop where
  keep : ∀ {H H' : Hp} {o : OB} {v : V}, Same H H' → O.At H o v → O.At H' o v
  isi : ∀ {H : Hp} {o : OB} {v : V}, O.At H o v → ∃ t, TyX K H v t ∧ ∀ T ∈ ["str", "tuple", "dict", "bool"], PySem.W.kitOne K t (.type T) = some (od o && decide (T = "dict"))
  nn : ∀ {H : Hp} {o : OB} {v : V}, O.At H o v → v ≠ .non
  kk : O.K = K
  dic : ∀ {H : Hp} {o : OB} {v : V}, O.At H o v → od o = true → ∃ (a : Addr) (i : Int) (u : V), v = .ref a ∧ H a = some (.dK [(Sum.inl i, u)])
variable {OB : Type} {O : Obs OB} {od : OB → Bool}
mutual
theorem Tw.dv {K : PySem.W.Frag} (W : Tw K O od) {H H' : Hp} (k : Same H H') : ∀ (x : DV OB) (v : V), Dv O H x v → Dv O H' x v
  | .non, _, h => h
  | .bl _, _, h => h
  | .int _, _, h => h
  | .str _, _, h => h
  | .ob _, _, h => W.keep k h
  | .tup l, _, ⟨a, us, e, h, p⟩ => ⟨a, us, e, SqT.same h k, Tw.dvl W k l us p⟩
  | .lst l, _, ⟨a, us, e, h, p⟩ => ⟨a, us, e, k _ _ h, Tw.dvl W k l us p⟩
  | .map _ l, _, ⟨a, kvs, e, h, nd, hk, p⟩ => ⟨a, kvs, e, k _ _ h, nd, hk, Tw.dvl W k l _ p⟩
theorem Tw.dvl {K : PySem.W.Frag} (W : Tw K O od) {H H' : Hp} (k : Same H H') : ∀ (l : List (DV OB)) (us : List V), DvL O H l us → DvL O H' l us
  | [], _, h => h
  | x :: l, _, ⟨u, us, e, h, p⟩ => ⟨u, us, e, Tw.dv W k x u h, Tw.dvl W k l us p⟩
end
def isT (od : OB → Bool) (T : String) : DV OB → Bool
  | .non => false
  | .bl _ => decide (T = "bool")
  | .int _ => false
  | .str _ => decide (T = "str")
  | .ob o => od o && decide (T = "dict")
  | .tup _ => decide (T = "tuple")
  | .lst _ => false
  | .map _ _ => decide (T = "dict")
theorem kit_tab4 : ∀ a ∈ ["NoneType", "bool", "int", "str", "tuple", "list", "dict"], ∀ T ∈ ["str", "tuple", "dict", "bool"], kitB a T = some (a == T) := by decide +kernel
theorem Tw.tyK {K : PySem.W.Frag} (W : Tw K O od) {H : Hp} {x : DV OB} {v : V} (h : Dv O H x v) : ∃ t, TyX K H v t ∧ ∀ T ∈ ["str", "tuple", "dict", "bool"], PySem.W.kitOne K t (.type T) = some (isT od T x) := by
  have go : ∀ a, a ∈ ["NoneType", "bool", "int", "str", "tuple", "list", "dict"] → ∀ T ∈ ["str", "tuple", "dict", "bool"], PySem.W.kitOne K (.type a) (.type T) = some (a == T) := fun a ha T hT => kit_ty (kit_tab4 a ha T hT)
  have T4 : ∀ {P : String → Prop}, P "str" → P "tuple" → P "dict" → P "bool" → ∀ T ∈ ["str", "tuple", "dict", "bool"], P T := fun a b c d T h => by
    simp only [List.mem_cons, List.not_mem_nil, or_false] at h
    rcases h with rfl | rfl | rfl | rfl <;> assumption
  cases x with
  | non => cases h; exact ⟨_, .base .non, T4 (go "NoneType" (by simp) _ (by simp)) (go "NoneType" (by simp) _ (by simp)) (go "NoneType" (by simp) _ (by simp)) (go "NoneType" (by simp) _ (by simp))⟩
  | bl b => cases h; exact ⟨_, .base (.bl b), T4 (go "bool" (by simp) _ (by simp)) (go "bool" (by simp) _ (by simp)) (go "bool" (by simp) _ (by simp)) (go "bool" (by simp) _ (by simp))⟩
  | int i => cases h; exact ⟨_, .base (.int i), T4 (go "int" (by simp) _ (by simp)) (go "int" (by simp) _ (by simp)) (go "int" (by simp) _ (by simp)) (go "int" (by simp) _ (by simp))⟩
  | str s => cases h; exact ⟨_, .base (.str s), T4 (go "str" (by simp) _ (by simp)) (go "str" (by simp) _ (by simp)) (go "str" (by simp) _ (by simp)) (go "str" (by simp) _ (by simp))⟩
  | ob o => exact W.isi h
  | tup l => obtain ⟨a, us, rfl, e, _⟩ := h; exact ⟨_, SqT.tyx (W.kk ▸ e), T4 (go "tuple" (by simp) _ (by simp)) (go "tuple" (by simp) _ (by simp)) (go "tuple" (by simp) _ (by simp)) (go "tuple" (by simp) _ (by simp))⟩
  | lst l => obtain ⟨a, us, rfl, e, _⟩ := h; exact ⟨_, .base (.lst e), T4 (go "list" (by simp) _ (by simp)) (go "list" (by simp) _ (by simp)) (go "list" (by simp) _ (by simp)) (go "list" (by simp) _ (by simp))⟩
  | map ks l => obtain ⟨a, us, rfl, e, _⟩ := h; exact ⟨_, .base (.dK e), T4 (go "dict" (by simp) _ (by simp)) (go "dict" (by simp) _ (by simp)) (go "dict" (by simp) _ (by simp)) (go "dict" (by simp) _ (by simp))⟩
theorem call_isK {X : Cx} (W : Tw X.K O od) {T : String} (hT : T ∈ ["str", "tuple", "dict", "bool"]) : CallR X (.builtin "isinstance") (fun xs H Q => ∃ v x, xs = [v, .ty T] ∧ Dv O H x v ∧ Q (.bl (isT od T x)) H) := fun pins s σ H xs us Q I r ⟨v, x, e, h, q⟩ => by
  obtain ⟨t, h1, h2⟩ := W.tyK h
  exact call_isi pins s σ H xs us Q I r ⟨v, .ty T, t, .type T, _, e, .ty T, h1, h2 T hT, q⟩
/-! ### is_name, are_unlike, _is_among -/
structure TxtK (mg : Str → Option Value) : Prop where
  isi : mg "isinstance" = none
  str : mg "str" = none
  tuple : mg "tuple" = none
  dict : mg "dict" = none
  bool : mg "bool" = none
  len : mg "len" = none
  all : mg "all" = none
  set : mg "set" = none
  list : mg "list" = none
theorem lt1 (a b : Nat) : decide (([a] : List Nat) < [b]) = decide (a < b) := decide_eq_decide.mpr (by simp [List.cons_lt_cons_iff])
/-- one of a to z -/
def ltr (c : Nat) : Bool := decide (97 ≤ c) && decide (c ≤ 122)
/-- a name -/
def nmS (s : Str) : Bool := decide (1 ≤ s.length) && decide (s.length ≤ 12) && s.cps.toList.all ltr
def nmD : DV OB → Bool
  | .str s => nmS s
  | _ => false
/-- its texts are short -/
def shD : DV OB → Bool
  | .str s => decide (s.length ≤ 1000)
  | _ => true
abbrev sName : Stmt := Pf.top 8
abbrev NName : List Str := ["thing", "letter"]
theorem scName : FnScope NName ["thing"] (defScope sName) := ⟨rfl, rfl, rfl, by decide +kernel, rfl, by decide +kernel, by decide +kernel⟩
/-- of a value a bool is told, nothing that stands is changed -/
def spB (O : Obs OB) (ok f : DV OB → Bool) : Sp := fun vs H Q _ => ∃ v d, vs = [v] ∧ Dv O H d v ∧ ok d = true ∧ ∀ H', Same H H' → Q (.bl (f d)) H'
section
variable {P : Program} {w : World} {K : PySem.W.Frag} {mg : Str → Option Value} {base : Heap}
theorem ok_name {f : Addr} {fd : FuncData} (F : Fun K "is_name" "is_name" sName f fd) (T : TxtK mg) (W : Tw K O od) : FnOk P w K mg base CX0 1 f fd ["thing"] (spB O shD nmD) := by
  refine F.ok scName (fun vs H Q E h => ?_) (fun cdv A outer s H vs Q E hr h => ?_)
  · obtain ⟨v, d, rfl, _⟩ := h
    rfl
  · obtain ⟨v, d, rfl, hd, hs, k⟩ := h
    refine ⟨_, (pss_cons (ps_if (PW.pt (pw_or (pt_not (pt_val (pe_callB (call_isK W (T := "str") (by simp)) (by rfl) T.isi (by decide +kernel) (pa_cons (pv 0) (pa_cons (pe_bltn (v := .ty "str") (by rfl) T.str (by decide +kernel) rfl) pa_nil))))) (pw_or1 (pt_not (pt_chain op_le op_le pe_int (pe_callB call_len_str (by rfl) T.len (by decide +kernel) (pa_cons (pv 0) pa_nil)) pe_int))))) (pss_one (ps_ret pe_bl)) pss_nil)
      (pss_one (ps_ret (pe_callB (cr_all rfl) (by rfl) T.all (by decide +kernel) (pa_cons (pe_lc (own := [("letter", 1)]) (g := gName 1) (tt := tYes) rfl scName.nd (pi_str (pv 0)) (blkOk_by (N := NName) (sc := defScope sName) (by decide +kernel)) (fun _ _ _ _ _ => pg_name (i := 1) scName.nd rfl (Or.inl rfl)) (fun _ _ _ _ _ => pts_nil) (fun _ _ _ _ _ => pe_chain op_le_str op_le_str pe_str (pv 1) pe_str)) pa_nil))))), ?_⟩
    refine ⟨_, rfl, v, d, rfl, hd, _, rfl, ?_⟩
    cases d with
    | str x =>
      cases hd
      refine iteN rfl ?_
      have h1 : x.length ≤ 1000 := of_decide_eq_true hs
      refine ⟨_, rfl, x, rfl, Nat.le_trans h1 (by decide), ?_⟩
      refine ⟨1, _, rfl, rfl, _, rfl, ?_⟩
      have no : 1 ≤ x.length ∧ x.length ≤ 12 ∨ nmS x = false := by
        by_cases e1 : 1 ≤ x.length
        · by_cases e2 : x.length ≤ 12
          · exact .inl ⟨e1, e2⟩
          · exact .inr (by simp [nmS, e2])
        · exact .inr (by simp [nmS, e1])
      have goF : nmS x = false → ∀ H', Same H H' → Q (.bl false) H' := fun e H' k' => e ▸ k H' k'
      by_cases e1 : 1 ≤ x.length
      · refine iteC (decide_eq_true (by omega)) ⟨_, _, rfl, rfl, _, rfl, ?_⟩
        by_cases e2 : x.length ≤ 12
        · have e3 : decide ((x.length : Int) ≤ 12) = true := decide_eq_true (by omega)
          rw [e3]
          refine iteN rfl ⟨_, rfl, x, rfl, fun D hD => ?_⟩
          refine lc_out (n := x.cps.size) walk_str hD (fun i => .bl (ltr (x.cps.toList.getD i 0))) (Nat.lt_of_le_of_lt h1 (by decide)) (fun _ _ => trivial) (fun i y H2 H2' N hi k2 hy q => ?_) (fun H2 k2 h2 => ?_)
          · obtain ⟨rfl, c, hc, rfl⟩ := hy
            have ec : x.cps.toList.getD i 0 = c := by
              rw [List.getD_eq_getElem?_getD, Array.getElem?_toList, hc]
              rfl
            rw [ec] at q
            refine ⟨rfl, _, rfl, _, _, rfl, rfl, _, rfl, ?_⟩
            by_cases g1 : 97 ≤ c
            · refine iteC (show (!decide ([c] < ([97] : List Nat))) = true by rw [lt1, decide_eq_false (by omega)]; rfl) ⟨_, _, rfl, rfl, ?_⟩
              have e4 : ltr c = !decide (([122] : List Nat) < [c]) := by rw [lt1, ltr, decide_eq_true g1, Bool.true_and, ← decide_not]; exact decide_eq_decide.mpr (by omega)
              exact e4 ▸ q _ (Same.refl _)
            · refine iteN (show (!decide ([c] < ([97] : List Nat))) = false by rw [lt1, decide_eq_true (by omega)]; rfl) ?_
              have e4 : ltr c = false := by simp [ltr, g1]
              exact e4 ▸ q _ (Same.refl _)
          · refine ⟨D, x.cps.toList.map ltr, rfl, SqL.of ?_, ?_⟩
            · rw [h2, List.map_map]
              exact congrArg (fun z => some (HO.lst z)) (range_map (fun c => V.bl (ltr c)) _ x.cps.toList fun i a h => by rw [List.getD_eq_getElem?_getD, h]; rfl)
            · have e4 : nmS x = (x.cps.toList.map ltr).all id := by
                simp [nmS, e1, e2, List.all_map]
              exact e4 ▸ k H2 k2
        · have e3 : decide ((x.length : Int) ≤ 12) = false := decide_eq_false (by omega)
          rw [e3]
          exact iteC rfl (goF (no.resolve_left fun z => e2 z.2) H (Same.refl H))
      · exact iteN (decide_eq_false (by omega)) ⟨_, rfl, iteC rfl (goF (no.resolve_left fun z => e1 z.1) H (Same.refl H))⟩
    | ob o => exact iteC (by simp [isT]) (k H (Same.refl H))
    | _ => exact iteC rfl (k H (Same.refl H))
end
end Kd

set_option Elab.async false
set_option linter.all false
set_option maxRecDepth 100000
set_option maxHeartbeats 4000000
namespace Kd
open PySem PySem.Spec PyProof.Rows L2 Dq Vl
variable {OB : Type} {O : Obs OB} {od : OB → Bool}
abbrev sUnl : Stmt := Pf.top 9
abbrev NUnl : List Str := ["names"]
theorem scUnl : FnScope NUnl ["names"] (defScope sUnl) := ⟨rfl, rfl, rfl, by decide +kernel, rfl, by decide +kernel, by decide +kernel⟩
def spUnl (K : PySem.W.Frag) : Sp := fun vs H Q _ => ∃ (a : Addr) (xs : List Str), vs = [.ref a] ∧ SqL K H a (xs.map V.str) ∧ xs.length ≤ 4000 ∧ Q (.bl (decide xs.Nodup)) H
/-- one of the texts -/
def amD (xs : List Str) : DV OB → Bool
  | .str s => decide (s ∈ xs)
  | _ => false
abbrev sAmo : Stmt := Pf.top 15
abbrev NAmo : List Str := ["thing", "names"]
theorem scAmo : FnScope NAmo ["thing", "names"] (defScope sAmo) := ⟨rfl, rfl, rfl, by decide +kernel, rfl, by decide +kernel, by decide +kernel⟩
def spAmo (K : PySem.W.Frag) (O : Obs OB) : Sp := fun vs H Q _ => ∃ (v : V) (d : DV OB) (a : Addr) (xs : List Str), vs = [v, .ref a] ∧ Dv O H d v ∧ (SqL K H a (xs.map V.str) ∨ SqT K H a (xs.map V.str)) ∧ Q (.bl (amD xs d)) H
theorem flat_tx (xs : List Str) : (xs.map V.str).all flatV = true := by
  induction xs with
  | nil => rfl
  | cons x xs ih => exact ih
theorem in_tx (s : Str) (xs : List Str) : inV (V.str s) (xs.map V.str) = decide (s ∈ xs) := by
  unfold inV
  induction xs with
  | nil => rfl
  | cons x xs ih =>
    rw [List.map_cons, List.any_cons, ih, show eqV (V.str x) (V.str s) = decide (x = s) from rfl, Bool.eq_iff_iff, Bool.or_eq_true, decide_eq_true_eq, decide_eq_true_eq, decide_eq_true_eq, List.mem_cons]
    exact or_congr ⟨Eq.symm, Eq.symm⟩ Iff.rfl
section
variable {P : Program} {w : World} {K : PySem.W.Frag} {mg : Str → Option Value} {base : Heap}
theorem ok_unl {f : Addr} {fd : FuncData} (F : Fun K "are_unlike" "are_unlike" sUnl f fd) (T : TxtK mg) : FnOk P w K mg base CX0 1 f fd ["names"] (spUnl K) := by
  refine F.ok scUnl (fun vs H Q E h => ?_) (fun cdv A outer s H vs Q E hr h => ?_)
  · obtain ⟨a, xs, rfl, _⟩ := h
    rfl
  · obtain ⟨a, xs, rfl, ha, hl, k⟩ := h
    refine ⟨_, pss_one (ps_ret (pe_cmpR op_eq (pe_lenTx (by rfl) T.len (by rfl) T.set (pv 0)) (pe_callB call_len_seq (by rfl) T.len PySem.boot_len (pa_cons (pv 0) pa_nil)) (nomark _))), ?_⟩
    refine ⟨_, rfl, a, xs, rfl, ha, hl, _, rfl, a, _, rfl, .inl ha, rfl, ?_⟩
    have e : decide (V.int (TxS.ct xs.reverse : Nat) = V.int ((xs.map V.str).length : Nat)) = decide xs.Nodup := by
      rw [← TxS.ct_rev, List.length_map]
      exact decide_eq_decide.mpr (by rw [V.int.injEq]; omega)
    rw [e]
    exact k
theorem ok_amo {f : Addr} {fd : FuncData} (F : Fun K "_is_among" "_is_among" sAmo f fd) (T : TxtK mg) (W : Tw K O od) : FnOk P w K mg base CX0 1 f fd ["thing", "names"] (spAmo K O) := by
  refine F.ok scAmo (fun vs H Q E h => ?_) (fun cdv A outer s H vs Q E hr h => ?_)
  · obtain ⟨v, d, a, xs, rfl, _⟩ := h
    rfl
  · obtain ⟨v, d, a, xs, rfl, hd, ha, k⟩ := h
    refine ⟨_, pss_one (ps_ret (pe_and (pe_callB (call_isK W (T := "str") (by simp)) (by rfl) T.isi (by decide +kernel) (pa_cons (pv 0) (pa_cons (pe_bltn (v := .ty "str") (by rfl) T.str (by decide +kernel) rfl) pa_nil))) (pe_one (pe_cmpR op_in_seq (pv 0) (pv 1) (by rfl))))), ?_⟩
    refine ⟨_, rfl, v, d, rfl, hd, _, rfl, ?_⟩
    cases d with
    | str s =>
      cases hd
      refine iteC rfl ⟨_, rfl, _, rfl, a, _, rfl, ha, rfl, flat_tx xs, ?_⟩
      show Q (.bl (inV (V.str s) (xs.map V.str))) H
      rw [in_tx]
      exact k
    | ob o => exact iteN (by simp [isT]) k
    | _ => exact iteN rfl k
end
end Kd

set_option Elab.async false
set_option linter.all false
set_option maxRecDepth 100000
set_option maxHeartbeats 4000000
namespace Kd
open PySem PySem.Spec PyProof.Rows L2 Dq Vl
variable {OB : Type} {O : Obs OB} {od : OB → Bool}
abbrev sRdg : Stmt := Pf.top 18
abbrev NRdg : List Str := ["thing", "key"]
theorem scRdg : FnScope NRdg ["thing"] (defScope sRdg) := ⟨rfl, rfl, rfl, by decide +kernel, rfl, by decide +kernel, by decide +kernel⟩
def leaf : DV OB → Bool
  | .non | .bl _ | .int _ | .str _ => true
  | _ => false
def isS : DV OB → Bool
  | .str _ => true
  | _ => false
/-- what the world tells: texts by texts -/
def rdD : DV OB → Bool
  | .map _ l => l.all isS
  | _ => false
def okR : DV OB → Bool
  | .map ks l => l.all leaf && decide (ks.length ≤ 1000)
  | _ => true
theorem leaf_at {H H' : Hp} {d : DV OB} {v : V} (h : leaf d = true) (k : Dv O H d v) : Dv O H' d v := by
  cases d with
  | non => exact k
  | bl _ => exact k
  | int _ => exact k
  | str _ => exact k
  | _ => cases h
def isV : V → Bool
  | .str _ => true
  | _ => false
def isK : Key → Bool
  | .inr _ => true
  | .inl _ => false
def pb (p : Key × V) : Bool := isK p.1 && isV p.2
theorem isS_pb {H : Hp} {d : DV OB} {v : V} (h : leaf d = true) (k : Dv O H d v) : isT od "str" d = isV v ∧ isS d = isV v := by
  cases d with
  | non => cases k; exact ⟨rfl, rfl⟩
  | bl _ => cases k; exact ⟨rfl, rfl⟩
  | int _ => cases k; exact ⟨rfl, rfl⟩
  | str _ => cases k; exact ⟨rfl, rfl⟩
  | _ => cases h
theorem map_rd {H : Hp} : ∀ {ks : List Str} {l : List (DV OB)} {kvs : List (Key × V)}, kvs.map (·.1) = ks.map Sum.inr → DvL O H l (kvs.map (·.2)) → l.all leaf = true →
    (∀ p ∈ kvs, ∃ d : DV OB, leaf d = true ∧ Dv O H d p.2) ∧ l.all isS = kvs.all pb
  | ks, [], [], e, p, _ => ⟨fun p h => (nomatch h), rfl⟩
  | ks, [], kv :: kvs, e, p, _ => by cases p
  | ks, x :: l, [], e, p, _ => by obtain ⟨u, us, e1, _⟩ := p; cases e1
  | [], x :: l, kv :: kvs, e, p, _ => by cases e
  | j :: ks, x :: l, kv :: kvs, e, p, g => by
    obtain ⟨u, us, e1, h1, p1⟩ := p
    simp only [List.map_cons, List.cons.injEq] at e e1
    obtain ⟨rfl, rfl⟩ := e1
    simp only [List.all_cons, Bool.and_eq_true] at g
    obtain ⟨a, b⟩ := map_rd (ks := ks) e.2 p1 g.2
    refine ⟨fun p h => ?_, ?_⟩
    · rcases List.mem_cons.mp h with rfl | h
      · exact ⟨x, g.1, h1⟩
      · exact a p h
    · rw [List.all_cons, List.all_cons, b, (isS_pb (od := fun _ => false) g.1 h1).2]
      congr 1
      unfold pb
      rw [e.1]
      rfl
theorem nd_inr {ks : List Str} (h : ks.Nodup) : (ks.map (Sum.inr : Str → Key)).Nodup := List.Pairwise.map _ (fun a b n e => n (Sum.inr.inj e)) h
section
variable {P : Program} {w : World} {K : PySem.W.Frag} {mg : Str → Option Value} {base : Heap}
theorem ok_rdg {f : Addr} {fd : FuncData} (F : Fun K "_is_reading" "_is_reading" sRdg f fd) (T : TxtK mg) (W : Tw K O od) : FnOk P w K mg base CX0 1 f fd ["thing"] (spB O okR rdD) := by
  refine F.ok scRdg (fun vs H Q E h => ?_) (fun cdv A outer s H vs Q E hr h => ?_)
  · obtain ⟨v, d, rfl, _⟩ := h
    rfl
  · obtain ⟨v, d, rfl, hd, hs, k⟩ := h
    have hu := hu_of hr
    refine ⟨_, (pss_cons (ps_if (pt_not (pt_val (pe_callB (call_isK W (T := "dict") (by simp)) (by rfl) T.isi (by decide +kernel) (pa_cons (pv 0) (pa_cons (pe_bltn (v := .ty "dict") (by rfl) T.dict (by decide +kernel) rfl) pa_nil))))) (pss_one (ps_ret pe_bl)) pss_nil)
      (pss_one (ps_ret (pe_lock (pe_callB (cr_all rfl) (by rfl) T.all (by decide +kernel) (pa_cons (pe_lc (own := [("key", 1)]) (g := gName 1) (tt := tYes) rfl scRdg.nd (pi_keys (pv 0)) (blkOk_by (N := NRdg) (sc := defScope sRdg) (by decide +kernel)) (fun _ _ _ _ _ => pg_name (i := 1) scRdg.nd rfl (Or.inl rfl)) (fun _ _ _ _ _ => pts_nil)
        (fun _ _ _ _ _ => pe_and (pe_callB (call_isK W (T := "str") (by simp)) (by rfl) T.isi (by decide +kernel) (pa_cons (pv 1) (pa_cons (pe_bltn (v := .ty "str") (by rfl) T.str (by decide +kernel) rfl) pa_nil)))
          (pe_one (pe_callB (call_isK W (T := "str") (by simp)) (by rfl) T.isi (by decide +kernel) (pa_cons (pe_dget hu (pv 0) (pv 1) (fun _ _ => rfl)) (pa_cons (pe_bltn (v := .ty "str") (by rfl) T.str (by decide +kernel) rfl) pa_nil)))))) pa_nil)))))), ?_⟩
    refine ⟨_, rfl, v, d, rfl, hd, _, rfl, ?_⟩
    have cs : (isT od "dict" d = false ∧ rdD d = false) ∨ ∃ (a : Addr) (kvs : List (Key × V)), v = .ref a ∧ H a = some (.dK kvs) ∧ (kvs.map (·.1)).Nodup ∧ kvs.length ≤ 1000 ∧ (∀ p ∈ kvs, isK p.1 = true → ∃ d : DV OB, leaf d = true ∧ Dv O H d p.2) ∧ rdD d = kvs.all pb ∧ isT od "dict" d = true := by
      cases d with
      | map ks l =>
        obtain ⟨a, kvs, e1, e2, e3, e4, e5⟩ := hd
        simp only [okR, Bool.and_eq_true, decide_eq_true_eq] at hs
        obtain ⟨m1, m2⟩ := map_rd e4 e5 hs.1
        refine .inr ⟨a, kvs, e1, e2, e4 ▸ nd_inr e3, ?_, fun p h _ => m1 p h, m2, rfl⟩
        have := congrArg List.length e4
        rw [List.length_map, List.length_map] at this
        omega
      | ob o =>
        cases eo : od o with
        | false => exact .inl ⟨by simp [isT, eo], rfl⟩
        | true =>
          obtain ⟨a, i, u, e1, e2⟩ := W.dic hd eo
          exact .inr ⟨a, _, e1, e2, by simp, by simp, fun p h q => (by rcases List.mem_singleton.mp h with rfl; cases q), rfl, by simp [isT, eo]⟩
      | _ => exact .inl ⟨rfl, rfl⟩
    rcases cs with ⟨e1, e2⟩ | ⟨a, kvs, rfl, ha, nd, hl, hk, er, ed⟩
    · rw [e1]
      exact iteC rfl (e2 ▸ k H (Same.refl H))
    · rw [ed]
      refine iteN rfl ⟨a, .dK kvs, ha, True.intro, fun oa => ⟨_, rfl, a, oa, rfl, .inl ⟨kvs, upd_same, fun D hD => ?_⟩⟩⟩
      refine lc_out (walk_keys (d := a) (o := oa) (kvs := kvs)) hD (fun i => .bl (pb (kvs.getD i (Sum.inl 0, .non)))) (Nat.lt_of_le_of_lt hl (by decide)) (fun H2 k2 => k2 _ _ upd_same) (fun i y H2 H2' N hi k2 hy q => ?_) (fun H2 k2 h2 => ?_)
      · obtain ⟨rfl, k0, u, e6, rfl⟩ := hy
        have eg : kvs.getD i (Sum.inl 0, .non) = (k0, u) := by rw [List.getD_eq_getElem?_getD, e6]; rfl
        rw [eg] at q
        cases k0 with
        | inl n => 
          exact ⟨rfl, _, rfl, _, .int n, rfl, rfl, _, rfl, iteN rfl (q _ (Same.refl _))⟩
        | inr z =>
          obtain ⟨d2, l2, v2⟩ := hk _ (List.mem_of_getElem? e6) rfl
          refine ⟨rfl, _, rfl, _, .str z, rfl, rfl, _, rfl, iteC rfl ?_⟩
          have hv : valV kvs (Sum.inr z) = some u := find_at nd e6
          refine ⟨_, rfl, _, rfl, a, u, rfl, .inl ⟨kvs, Sum.inr z, .inr ⟨oa, k2 _ _ upd_same⟩, rfl, hv.symm⟩, u, d2, rfl, leaf_at l2 v2, ?_⟩
          rw [(isS_pb l2 v2).1]
          exact q _ (Same.refl _)
      · refine ⟨D, kvs.map pb, rfl, SqL.of ?_, ?_⟩
        · rw [h2, List.map_map]
          exact congrArg (fun z => some (HO.lst z)) (range_map (fun c => V.bl (pb c)) _ kvs fun i a h => by rw [List.getD_eq_getElem?_getD, h]; rfl)
        · have e4 : (kvs.map pb).all id = rdD d := by rw [er, List.all_map]; rfl
          rw [e4]
          have nD : D ≠ a := fun z => by rw [z, upd_same] at hD; cases hD
          refine ⟨k2 _ _ upd_same, k _ fun b o e => ?_⟩
          by_cases n : b = a
          · subst n
            rw [ha] at e
            cases e
            exact upd_same
          · exact (upd_ne n).trans (k2 b o ((upd_ne n).trans e))
end
end Kd

set_option Elab.async false
set_option linter.all false
set_option maxRecDepth 100000
set_option maxHeartbeats 4000000
namespace Kd
open PySem PySem.Spec PyProof.Rows L2 Dq Vl
variable {OB : Type} {O : Obs OB} {od : OB → Bool}
abbrev sGiv : Stmt := Pf.top 17
abbrev NGiv : List Str := ["row", "name", "sort", "forces", "reading"]
theorem scGiv : FnScope NGiv ["row"] (defScope sGiv) := ⟨rfl, rfl, rfl, by decide +kernel, rfl, by decide +kernel, by decide +kernel⟩
abbrev srts : List Str := ["wanted", "open", "filled"]
def isBl : DV OB → Bool
  | .bl _ => true
  | _ => false
def isNo : DV OB → Bool
  | .non => true
  | _ => false
def gv4 (n s f r : DV OB) : Bool := nmD n && (amD srts s && (isBl f && (isNo r || rdD r)))
/-- a given attribute -/
def gvD : DV OB → Bool
  | .tup [n, s, f, r] => gv4 n s f r
  | _ => false
def okX (d : DV OB) : Bool := shD d && okR d
def okG : DV OB → Bool
  | .tup l => l.all okX
  | _ => true
theorem len4 {H : Hp} {n s f r : DV OB} {us : List V} (h : DvL O H [n, s, f, r] us) : ∃ a b c d, us = [a, b, c, d] ∧ Dv O H n a ∧ Dv O H s b ∧ Dv O H f c ∧ Dv O H r d := by
  obtain ⟨a, _, rfl, h1, b, _, rfl, h2, c, _, rfl, h3, d, _, rfl, h4, rfl⟩ := h
  exact ⟨a, b, c, d, rfl, h1, h2, h3, h4⟩
theorem isN_no {K : PySem.W.Frag} (W : Tw K O od) {H : Hp} {d : DV OB} {v : V} (h : Dv O H d v) : decide (v = .non) = isNo d := by
  cases d with
  | non => cases h; rfl
  | bl _ => cases h; rfl
  | int _ => cases h; rfl
  | str _ => cases h; rfl
  | ob o => exact decide_eq_false (W.nn h)
  | tup l => obtain ⟨a, us, rfl, _⟩ := h; rfl
  | lst l => obtain ⟨a, us, rfl, _⟩ := h; rfl
  | map ks l => obtain ⟨a, us, rfl, _⟩ := h; rfl
theorem isT_bl (d : DV OB) : isT od "bool" d = isBl d := by
  cases d <;> simp [isT, isBl]
structure TxtS (K : PySem.W.Frag) (mg : Str → Option Value) (aS : Addr) : Prop where
  m : mg "SORTS" = some (.ref aS)
  at_ : ∀ H, SqT K H aS (srts.map V.str)
section
variable {P : Program} {w : World} {K : PySem.W.Frag} {mg : Str → Option Value} {base : Heap}
theorem ok_giv {f fN fA fR aS : Addr} {fd fdN fdA fdR : FuncData} (F : Fun K "_is_given" "_is_given" sGiv f fd) (T : TxtK mg) (S : TxtS K mg aS) (W : Tw K O od)
    (DN : Def P w K mg base 1 "is_name" fN fdN ["thing"] (spB O shD nmD)) (DA : Def P w K mg base 1 "_is_among" fA fdA ["thing", "names"] (spAmo K O)) (DR : Def P w K mg base 1 "_is_reading" fR fdR ["thing"] (spB O okR rdD)) :
    FnOk P w K mg base CX0 2 f fd ["row"] (spB O okG gvD) := by
  refine F.ok scGiv (fun vs H Q E h => ?_) (fun cdv A outer s H vs Q E hr h => ?_)
  · obtain ⟨v, d, rfl, _⟩ := h
    rfl
  · obtain ⟨v, d, rfl, hd, hs, k⟩ := h
    have hu := hu_of hr
    refine ⟨_, (pss_cons (ps_if (PW.pt (pw_or (pt_not (pt_val (pe_callB (call_isK W (T := "tuple") (by simp)) (by rfl) T.isi (by decide +kernel) (pa_cons (pv 0) (pa_cons (pe_bltn (v := .ty "tuple") (by rfl) T.tuple (by decide +kernel) rfl) pa_nil))))) (pw_or1 (pt_cmpR op_ne (pe_callB call_len_seq (by rfl) T.len PySem.boot_len (pa_cons (pv 0) pa_nil)) pe_int (nomark _))))) (pss_one (ps_ret pe_bl)) pss_nil)
      (pss_cons (ps_asg (pv 0) (pg_tup rfl (pgs_cons (pg_name (i := 1) scGiv.nd rfl (Or.inl rfl)) (pgs_cons (pg_name (i := 2) scGiv.nd rfl (Or.inl rfl)) (pgs_cons (pg_name (i := 3) scGiv.nd rfl (Or.inl rfl)) (pgs_cons (pg_name (i := 4) scGiv.nd rfl (Or.inl rfl)) pgs_nil))))))
      (pss_cons (ps_if (PW.pt (pw_or (pt_not (pt_val (pe_call DN.ok (hr.mono (by omega)) rfl DN.g DN.kp DN.b .nil pass0 (pa_cons (pv 1) pa_nil)))) (pw_or (pt_not (pt_val (pe_call DA.ok (hr.mono (by omega)) rfl DA.g DA.kp DA.b .nil pass0 (pa_cons (pv 2) (pa_cons (pe_glob (v := .ref aS) rfl S.m rfl) pa_nil))))) (pw_or1 (pt_not (pt_val (pe_callB (call_isK W (T := "bool") (by simp)) (by rfl) T.isi (by decide +kernel) (pa_cons (pv 3) (pa_cons (pe_bltn (v := .ty "bool") (by rfl) T.bool (by decide +kernel) rfl) pa_nil))))))))) (pss_one (ps_ret pe_bl)) pss_nil)
      (pss_one (ps_ret (pe_or (pe_cmp (pc_isN (pv 4)) rfl) (pe_one (pe_call DR.ok (hr.mono (by omega)) rfl DR.g DR.kp DR.b .nil pass0 (pa_cons (pv 4) pa_nil))))))))), ?_⟩
    refine ⟨_, rfl, v, d, rfl, hd, _, rfl, ?_⟩
    have goF : gvD d = false → ∀ H', Same H H' → Q (.bl false) H' := fun e H' k' => e ▸ k H' k'
    by_cases et : isT od "tuple" d = true
    case neg =>
      have et := (Bool.not_eq_true _).mp et
      rw [et]
      refine iteC rfl (goF ?_ H (Same.refl H))
      cases d with
      | tup l => cases et
      | _ => rfl
    rw [et]
    refine iteN rfl ?_
    obtain ⟨l, rfl⟩ : ∃ l, d = .tup l := by
      cases d with
      | tup l => exact ⟨l, rfl⟩
      | ob o => simp [isT] at et
      | _ => cases et
    obtain ⟨a, us, rfl, ha, hl⟩ := hd
    have ha : SqT K H a us := W.kk ▸ ha
    have el := hl.len
    refine ⟨_, rfl, a, us, rfl, .inr ha, rfl, _, rfl, ?_⟩
    by_cases e4 : l.length = 4
    case neg =>
      refine iteC (by simp; omega) (goF ?_ H (Same.refl H))
      match l, e4 with
      | [], _ => rfl
      | [_], _ => rfl
      | [_, _], _ => rfl
      | [_, _, _], _ => rfl
      | [_, _, _, _], e => exact absurd rfl e
      | _ :: _ :: _ :: _ :: _ :: _, _ => rfl
    refine iteN (by simp; omega) ?_
    obtain ⟨n, s0, fo, r, rfl⟩ : ∃ n s f r, l = [n, s, f, r] := by
      match l, e4 with
      | [n, s, f, r], _ => exact ⟨n, s, f, r, rfl⟩
    obtain ⟨v1, v2, v3, v4, rfl, h1, h2, h3, h4⟩ := len4 hl
    simp only [okG, List.all_cons, List.all_nil, Bool.and_true, Bool.and_eq_true, okX] at hs
    obtain ⟨⟨s1, _⟩, _, _, _, s4⟩ := hs
    refine ⟨_, rfl, a, _, rfl, ha, rfl, v1, _, rfl, v2, _, rfl, v3, _, rfl, v4, _, rfl, rfl, ?_⟩
    refine ⟨_, rfl, v1, n, rfl, h1, s1, fun H1 k1 => ⟨_, rfl, ?_⟩⟩
    have eg : gvD (.tup [n, s0, fo, r]) = (nmD n && (amD srts s0 && (isBl fo && (isNo r || rdD r)))) := rfl
    cases e1 : nmD n with
    | false => exact iteC rfl (goF (by rw [eg, e1]; rfl) H1 k1)
    | true =>
      refine iteN rfl ⟨_, rfl, v2, s0, aS, srts, rfl, W.dv k1 _ _ h2, .inr (S.at_ H1), _, rfl, ?_⟩
      cases e2 : amD srts s0 with
      | false => exact iteC rfl (goF (by rw [eg, e1, e2]; rfl) H1 k1)
      | true =>
        refine iteN rfl ⟨_, rfl, v3, fo, rfl, W.dv k1 _ _ h3, _, rfl, ?_⟩
        rw [isT_bl]
        cases e3 : isBl fo with
        | false => exact iteC rfl (goF (by rw [eg, e1, e2, e3]; rfl) H1 k1)
        | true =>
          refine iteN rfl ⟨_, rfl, _, rfl, ?_⟩
          rw [isN_no W h4]
          rw [e1, e2, e3] at eg
          cases e5 : isNo r with
          | true => exact iteC rfl ((show gvD (.tup [n, s0, fo, r]) = true by rw [eg, e5]; rfl) ▸ k H1 k1)
          | false =>
            refine iteN rfl ⟨_, rfl, v4, r, rfl, W.dv k1 _ _ h4, s4, fun H2 k2 => ?_⟩
            exact (show gvD (.tup [n, s0, fo, r]) = rdD r by rw [eg, e5]; rfl) ▸ k H2 (Same.trans k1 k2)
end
end Kd

set_option Elab.async false
set_option linter.all false
set_option maxRecDepth 100000
set_option maxHeartbeats 4000000
namespace Kd
open PySem PySem.Spec PyProof.Rows L2 Dq Vl
variable {OB : Type} {O : Obs OB} {od : OB → Bool}
abbrev sGvs : Stmt := Pf.top 16
abbrev NGvs : List Str := ["rows", "row"]
theorem scGvs : FnScope NGvs ["rows"] (defScope sGvs) := ⟨rfl, rfl, rfl, by decide +kernel, rfl, by decide +kernel, by decide +kernel⟩
/-- a row's name -/
def nm0 : DV OB → Str
  | .tup (.str s :: _) => s
  | _ => Str.empty
/-- given attributes -/
def gvsD : DV OB → Bool
  | .tup l => l.all gvD && decide (l.map nm0).Nodup
  | _ => false
def okA : DV OB → Bool
  | .tup l => l.all okG && decide (l.length ≤ 1000)
  | _ => true
/-- a row with a name -/
def named (d : DV OB) : Prop := ∃ r, d = .tup (.str (nm0 d) :: r)
theorem gv_named {d : DV OB} (h : gvD d = true) : named d := by
  match d, h with
  | .tup [n, s, f, r], h =>
    cases n with
    | str z => exact ⟨_, rfl⟩
    | _ => cases h
theorem rowAt {H : Hp} : ∀ {l : List (DV OB)} {us : List V} {i : Nat} {u : V}, DvL O H l us → us[i]? = some u → ∃ x, l[i]? = some x ∧ Dv O H x u := fun {l us i u} h e => by
  have hi : i < us.length := (List.getElem?_eq_some_iff.mp e).1
  rw [h.len] at hi
  exact ⟨l[i], List.getElem?_eq_getElem hi, DvL.at h (List.getElem?_eq_getElem hi) e⟩
theorem first_at {K : PySem.W.Frag} (kk : O.K = K) {H : Hp} {d : DV OB} {v : V} (h : Dv O H d v) (n : named d) : ∃ (a : Addr) (us : List V), v = .ref a ∧ SqT K H a (.str (nm0 d) :: us) := by
  obtain ⟨r, e⟩ := n
  rw [e] at h
  obtain ⟨a, us, rfl, ha, u, us', rfl, h1, _⟩ := h
  cases h1
  exact ⟨a, us', rfl, kk ▸ ha⟩
theorem all_map {α : Type} (f : α → Bool) (l : List α) : (l.map f).all id = l.all f := by rw [List.all_map]; rfl
section
variable {P : Program} {w : World} {K : PySem.W.Frag} {mg : Str → Option Value} {base : Heap}
theorem ok_gvs {f fG fU : Addr} {fd fdG fdU : FuncData} (F : Fun K "_are_given" "_are_given" sGvs f fd) (T : TxtK mg) (W : Tw K O od)
    (DG : Def P w K mg base 2 "_is_given" fG fdG ["row"] (spB O okG gvD)) (DU : Def P w K mg base 1 "are_unlike" fU fdU ["names"] (spUnl K)) :
    FnOk P w K mg base CX0 3 f fd ["rows"] (spB O okA gvsD) := by
  refine F.ok scGvs (fun vs H Q E h => ?_) (fun cdv A outer s H vs Q E hr h => ?_)
  · obtain ⟨v, d, rfl, _⟩ := h
    rfl
  · obtain ⟨v, d, rfl, hd, hs, k⟩ := h
    refine ⟨_, (pss_cons (ps_if (PW.pt (pw_or (pt_not (pt_val (pe_callB (call_isK W (T := "tuple") (by simp)) (by rfl) T.isi (by decide +kernel) (pa_cons (pv 0) (pa_cons (pe_bltn (v := .ty "tuple") (by rfl) T.tuple (by decide +kernel) rfl) pa_nil))))) (pw_or1 (pt_not (pt_val (pe_callB (cr_all rfl) (by rfl) T.all (by decide +kernel) (pa_cons (pe_lc (own := [("row", 1)]) (g := gName 1) (tt := tYes) rfl scGvs.nd (pi_tup (pv 0)) (blkOk_by (N := NGvs) (sc := defScope sGvs) (by decide +kernel)) (fun _ _ _ _ _ => pg_name (i := 1) scGvs.nd rfl (Or.inl rfl)) (fun _ _ _ _ _ => pts_nil)
        (fun _ _ _ _ _ => pe_call DG.ok (hr.mono (by omega)) rfl DG.g DG.kp DG.b .nil pass0 (pa_cons (pv 1) pa_nil))) pa_nil))))))) (pss_one (ps_ret pe_bl)) pss_nil)
      (pss_one (ps_ret (pe_call DU.ok (hr.mono (by omega)) rfl DU.g DU.kp DU.b .nil pass0 (pa_cons (pe_lc (own := [("row", 1)]) (g := gName 1) (tt := tYes) rfl scGvs.nd (pi_tup (pv 0)) (blkOk_by (N := NGvs) (sc := defScope sGvs) (by decide +kernel)) (fun _ _ _ _ _ => pg_name (i := 1) scGvs.nd rfl (Or.inl rfl)) (fun _ _ _ _ _ => pts_nil)
        (fun _ _ _ _ _ => pe_ix (show IxR _ (rIxT K) from ix_tup) (pv 1) pe_int (fun _ _ => rfl))) pa_nil))))), ?_⟩
    refine ⟨_, rfl, v, d, rfl, hd, _, rfl, ?_⟩
    have goF : gvsD d = false → ∀ H', Same H H' → Q (.bl false) H' := fun e H' k' => e ▸ k H' k'
    by_cases et : isT od "tuple" d = true
    case neg =>
      have et := (Bool.not_eq_true _).mp et
      rw [et]
      refine iteC rfl (goF ?_ H (Same.refl H))
      cases d with
      | tup l => cases et
      | _ => rfl
    rw [et]
    obtain ⟨l, rfl⟩ : ∃ l, d = .tup l := by
      cases d with
      | tup l => exact ⟨l, rfl⟩
      | ob o => simp [isT] at et
      | _ => cases et
    obtain ⟨a, us, rfl, ha, hl⟩ := hd
    have ha : SqT K H a us := W.kk ▸ ha
    have el := hl.len
    simp only [okA, Bool.and_eq_true, decide_eq_true_eq] at hs
    have small : us.length < sizeLine := by rw [el]; exact Nat.lt_of_le_of_lt hs.2 (by decide)
    refine iteN rfl ⟨_, rfl, a, rfl, ⟨_, ha⟩, fun D hD => ?_⟩
    refine lc_out (walk_tup (xs := us)) hD (fun i => .bl (gvD (l.getD i .non))) small (fun H2 k2 => SqT.same ha k2) (fun i y H2 H2' N hi k2 hy q => ?_) (fun H2 k2 h2 => ?_)
    · obtain ⟨rfl, ex⟩ := hy
      obtain ⟨x, e1, hx⟩ := rowAt hl ex
      have eg : l.getD i .non = x := by rw [List.getD_eq_getElem?_getD, e1]; rfl
      rw [eg] at q
      exact ⟨rfl, y, rfl, y, x, rfl, W.dv k2 _ _ hx, List.all_eq_true.mp hs.1 x (List.mem_of_getElem? e1), fun H3 k3 => q H3 k3⟩
    · refine ⟨D, l.map gvD, rfl, SqL.of ?_, _, rfl, ?_⟩
      · rw [h2, List.map_map, el]
        exact congrArg (fun z => some (HO.lst z)) (range_map (fun c => V.bl (gvD c)) _ l fun i a h => by rw [List.getD_eq_getElem?_getD, h]; rfl)
      · rw [all_map]
        cases eg : l.all gvD with
        | false => exact iteC rfl (goF (by simp [gvsD, eg]) H2 k2)
        | true =>
          refine iteN rfl ⟨_, rfl, a, rfl, ⟨_, SqT.same ha k2⟩, fun D2 hD2 => ?_⟩
          refine lc_out (walk_tup (xs := us)) hD2 (fun i => .str (nm0 (l.getD i .non))) small (fun H3 k3 => SqT.same (SqT.same ha k2) k3) (fun i y H3 H3' N hi k3 hy q => ?_) (fun H3 k3 h3 => ?_)
          · obtain ⟨rfl, ex⟩ := hy
            obtain ⟨x, e1, hx⟩ := rowAt hl ex
            have eg2 : l.getD i .non = x := by rw [List.getD_eq_getElem?_getD, e1]; rfl
            rw [eg2] at q
            obtain ⟨b, us2, rfl, hb⟩ := first_at W.kk hx (gv_named (List.all_eq_true.mp eg x (List.mem_of_getElem? e1)))
            exact ⟨rfl, _, rfl, b, _, _, _, rfl, rfl, SqT.same (SqT.same hb k2) k3, atI_nat (j := 0) (xs := .str (nm0 x) :: us2) rfl, q _ (Same.refl _)⟩
          · refine ⟨D2, l.map nm0, rfl, SqL.of ?_, ?_, ?_⟩
            · rw [h3, List.map_map, el]
              exact congrArg (fun z => some (HO.lst z)) (range_map (fun c => V.str (nm0 c)) _ l fun i a h => by rw [List.getD_eq_getElem?_getD, h]; rfl)
            · rw [List.length_map]
              omega
            · have e6 : gvsD (.tup l) = decide (l.map nm0).Nodup := by simp [gvsD, eg]
              exact e6 ▸ k H3 (Same.trans k2 k3)
end
end Kd

set_option Elab.async false
set_option linter.all false
set_option maxRecDepth 100000
set_option maxHeartbeats 4000000
/-! x in (t, u), l.count(x) of data -/
namespace Kd
open PySem PySem.Spec PyProof.Rows L2 Dq Vl
variable {OB : Type} {O : Obs OB} {od : OB → Bool}
def rInTD (K : PySem.W.Frag) : R2 := fun x y H Q => ∃ d ds, Dp K H x d ∧ Dp K H y (.tuple ds) ∧ SeqAt.shaped d = true ∧ SeqAt.shaped (.tuple ds) = true ∧ Q (.bl (ds.any fun z => PyData.eqv z d)) H
theorem op_inTD {X : Cx} (hu : X.A.units + 65 < cLine) : OpR X (compareOp .In) (rInTD X.K) := fun pins s σ H x y v u Q I rx ry ⟨d, ds, hd, he, sd, se, q⟩ => by
  obtain ⟨_, r1⟩ := Dp.reads I d x v hd rx
  obtain ⟨_, r2⟩ := Dp.reads I (.tuple ds) y u he ry
  exact SeqAt.in_tuple_reads r2 r1 (SeqAt.canLay_of_shaped se) (SeqAt.canLay_of_shaped sd) (room_in_shaped sd hu) ⟨.bl _, H, I, rfl, q⟩
/-- l.count(x) -/
def rCntD (K : PySem.W.Frag) : V → List V → Hp → VK → Prop := fun x xs H Q => ∃ (a : Addr) (us : List V) (y : V) (d : PyData) (ds : List PyData), x = .ref a ∧ xs = [y] ∧ SqL K H a us ∧ DpAll K H us ds ∧ Dp K H y d ∧ SeqAt.shaped d = true ∧ PyData.plainAll ds = true ∧
  Q (.int (ds.countP fun z => PyData.eqv z d : Nat)) H
theorem mt_countD {X : Cx} (hu : X.A.units + 65 < cLine) : MtR X "list.count" (rCntD X.K) := by
  intro pins s σ H x xs v vs Q I rx rxs h
  obtain ⟨a, us, y, d, ds, rfl, rfl, ha, hds, hd, sd, pl, q⟩ := h
  cases rx
  obtain ⟨uy, rfl, ry⟩ := rxs.one
  obtain ⟨_, r1⟩ := Dp.reads I d y uy hd ry
  obtain ⟨its, rv, lst, _⟩ := I.list ha
  obtain ⟨_, r2⟩ := Dp.readsAll I ds _ its hds rv
  exact SeqAt.count_list_data lst.isList (by simpa using r2) r1 pl (PyData.plain_of_canLay0 d (SeqAt.canLay_of_shaped sd)) (room_in_shaped sd hu) ⟨.int (ds.countP fun z => PyData.eqv z d : Nat), H, I.tok _, ⟨_, rfl⟩, q⟩
/-! ### a tuple of leaves -/
def lfo : DV OB → Bool
  | .non | .bl _ | .int _ => true
  | .str s => PyData.strOk s
  | _ => false
theorem lfo_leaf {d : DV OB} (h : lfo d = true) : leaf d = true := by
  cases d <;> first | rfl | cases h
def py : DV OB → PyData
  | .non => .none
  | .bl b => .bool b
  | .int i => .int i
  | .str s => .str s
  | _ => .none
theorem dp_leaf {K : PySem.W.Frag} {H : Hp} {d : DV OB} {v : V} (l : leaf d = true) (h : Dv O H d v) : Dp K H v (py d) := by
  cases d with
  | non => cases h; exact .non
  | bl b => cases h; exact .bl b
  | int i => cases h; exact .int i
  | str s => cases h; exact .str s
  | _ => cases l
theorem dp_leaves {K : PySem.W.Frag} {H : Hp} : ∀ {l : List (DV OB)} {us : List V}, l.all lfo = true → DvL O H l us → DpAll K H us (l.map py)
  | [], _, _, h => by cases h; exact .nil
  | x :: l, _, e, ⟨u, us, e1, h, p⟩ => by
    subst e1
    simp only [List.all_cons, Bool.and_eq_true] at e
    exact .cons (dp_leaf (lfo_leaf e.1) h) (dp_leaves e.2 p)
theorem lay_leaves : ∀ (l : List (DV OB)), l.all lfo = true → PyData.canLayAll0 (l.map py) = true ∧ PyData.depthAll (l.map py) = 0 ∧ PyData.plainAll (l.map py) = true
  | [], _ => ⟨rfl, rfl, rfl⟩
  | x :: l, e => by
    simp only [List.all_cons, Bool.and_eq_true] at e
    obtain ⟨a, b, c⟩ := lay_leaves l e.2
    have e1 := e.1
    rw [List.map_cons, PyData.canLayAll0, PyData.depthAll, PyData.plainAll, a, b, c]
    cases x <;> first | (cases e1; done) | simp [py, PyData.canLay0, PyData.depth, PyData.plain]
    exact e1
theorem shaped_row {l : List (DV OB)} (e : l.all lfo = true) : SeqAt.shaped (.tuple (l.map py)) = true := by
  obtain ⟨a, b, _⟩ := lay_leaves l e
  unfold SeqAt.shaped
  rw [PyData.canLay0, a, PyData.depth, b]
  rfl
theorem dp_row {K : PySem.W.Frag} (kk : O.K = K) {H : Hp} {l : List (DV OB)} {v : V} (e : l.all lfo = true) (h : Dv O H (.tup l) v) : Dp K H v (.tuple (l.map py)) := by
  obtain ⟨a, us, rfl, ha, p⟩ := h
  exact .tup (kk ▸ ha) (dp_leaves e p)
end Kd

set_option Elab.async false
set_option linter.all false
set_option maxRecDepth 100000
set_option maxHeartbeats 4000000
namespace Kd
open PySem PySem.Spec PyProof.Rows L2 Dq Vl
variable {OB : Type} {O : Obs OB} {od : OB → Bool}
abbrev sMad : Stmt := Pf.top 20
abbrev NMad : List Str := ["row", "plain", "name", "rule"]
theorem scMad : FnScope NMad ["row", "plain"] (defScope sMad) := ⟨rfl, rfl, rfl, by decide +kernel, rfl, by decide +kernel, by decide +kernel⟩
def isTu : DV OB → Bool
  | .tup _ => true
  | _ => false
/-- ("id",) or ("mark",) -/
def idr : DV OB → Bool
  | .tup [.str s] => decide (s = "id") || decide (s = "mark")
  | _ => false
/-- ("around", a given one, a text, a text) -/
def arr (plain : List Str) : DV OB → Bool
  | .tup [.str s, x, y, z] => decide (s = "around") && (amD plain x && (isS y && isS z))
  | _ => false
theorem arr_len {plain : List Str} : ∀ {m : List (DV OB)}, m.length ≠ 4 → arr plain (.tup m) = false
  | [], _ => rfl
  | [x], _ => by cases x <;> rfl
  | [x, _], _ => by cases x <;> rfl
  | [x, _, _], _ => by cases x <;> rfl
  | [_, _, _, _], e => absurd rfl e
  | x :: _ :: _ :: _ :: _ :: _, _ => by cases x <;> rfl
def mr2 (plain : List Str) (n r : DV OB) : Bool := nmD n && (isTu r && (idr r || arr plain r))
def mrD (plain : List Str) : DV OB → Bool
  | .tup [n, r] => mr2 plain n r
  | _ => false
def okRule : DV OB → Bool
  | .tup l => l.all lfo && (decide (l.length ≠ 4) || isS (l.headD .non))
  | _ => true
def okM : DV OB → Bool
  | .tup [n, r] => shD n && okRule r
  | _ => true
def spMad (K : PySem.W.Frag) (O : Obs OB) : Sp := fun vs H Q _ => ∃ (v : V) (d : DV OB) (a : Addr) (plain : List Str), vs = [v, .ref a] ∧ Dv O H d v ∧ okM d = true ∧ SqL K H a (plain.map V.str) ∧ ∀ H', Same H H' → Q (.bl (mrD plain d)) H'
theorem len2 {H : Hp} {n r : DV OB} {us : List V} (h : DvL O H [n, r] us) : ∃ a b, us = [a, b] ∧ Dv O H n a ∧ Dv O H r b := by
  obtain ⟨a, _, rfl, h1, b, _, rfl, h2, rfl⟩ := h
  exact ⟨a, b, rfl, h1, h2⟩
theorem isT_tu (d : DV OB) : isT od "tuple" d = isTu d := by
  cases d <;> simp [isT, isTu]
theorem isT_st (d : DV OB) : isT od "str" d = isS d := by
  cases d <;> simp [isT, isS]
theorem eqv_t (a b : List PyData) : PyData.eqv (.tuple a) (.tuple b) = PyData.eqvAll a b := by rw [PyData.eqv]
theorem eqv_12 (x y z : PyData) (r : List PyData) : PyData.eqvAll [x] (y :: z :: r) = false := by rw [PyData.eqvAll, PyData.eqvAll, Bool.and_false]
theorem hu65 {A : Around} {k : Nat} (hr : Room k A) : A.units + 65 < cLine := by
  have := hr.un
  omega
theorem any_id {l : List (DV OB)} (e : l.all lfo = true) : ([PyData.tuple [.str "id"], .tuple [.str "mark"]].any fun z => PyData.eqv z (.tuple (l.map py))) = idr (.tup l) := by
  match l, e with
  | [], _ => rfl
  | [x], e =>
    cases x with
    | str s => 
      simp only [List.any_cons, List.any_nil, List.map_cons, List.map_nil, py, PyData.eqv, PyData.eqvAll, Bool.and_true, Bool.or_false, idr]
      rw [Bool.eq_iff_iff]
      simp only [Bool.or_eq_true, beq_iff_eq, decide_eq_true_eq]
      exact or_congr ⟨Eq.symm, Eq.symm⟩ ⟨Eq.symm, Eq.symm⟩
    | non => rfl
    | bl b => rfl
    | int i => rfl
    | _ => cases e
  | x :: y :: r, _ =>
    rw [List.any_cons, List.any_cons, List.any_nil, List.map_cons, List.map_cons, eqv_t, eqv_t, eqv_12, eqv_12]
    cases x <;> rfl
section
variable {P : Program} {w : World} {K : PySem.W.Frag} {mg : Str → Option Value} {base : Heap}
theorem ok_mad {f fN fA : Addr} {fd fdN fdA : FuncData} (F : Fun K "_is_made" "_is_made" sMad f fd) (T : TxtK mg) (W : Tw K O od)
    (DN : Def P w K mg base 1 "is_name" fN fdN ["thing"] (spB O shD nmD)) (DA : Def P w K mg base 1 "_is_among" fA fdA ["thing", "names"] (spAmo K O)) :
    FnOk P w K mg base CX0 2 f fd ["row", "plain"] (spMad K O) := by
  refine F.ok scMad (fun vs H Q E h => ?_) (fun cdv A outer s H vs Q E hr h => ?_)
  · obtain ⟨v, d, a, plain, rfl, _⟩ := h
    rfl
  · obtain ⟨v, d, ap, plain, rfl, hd, hs, hap, k⟩ := h
    refine ⟨_, (pss_cons (ps_if (PW.pt (pw_or (pt_not (pt_val (pe_callB (call_isK W (T := "tuple") (by simp)) (by rfl) T.isi (by decide +kernel) (pa_cons (pv 0) (pa_cons (pe_bltn (v := .ty "tuple") (by rfl) T.tuple (by decide +kernel) rfl) pa_nil))))) (pw_or1 (pt_cmpR op_ne (pe_callB call_len_seq (by rfl) T.len PySem.boot_len (pa_cons (pv 0) pa_nil)) pe_int (nomark _))))) (pss_one (ps_ret pe_bl)) pss_nil)
      (pss_cons (ps_asg (pv 0) (pg_tup rfl (pgs_cons (pg_name (i := 2) scMad.nd rfl (Or.inl rfl)) (pgs_cons (pg_name (i := 3) scMad.nd rfl (Or.inl rfl)) pgs_nil))))
      (pss_cons (ps_if (PW.pt (pw_or (pt_not (pt_val (pe_call DN.ok (hr.mono (by omega)) rfl DN.g DN.kp DN.b .nil pass0 (pa_cons (pv 2) pa_nil)))) (pw_or1 (pt_not (pt_val (pe_callB (call_isK W (T := "tuple") (by simp)) (by rfl) T.isi (by decide +kernel) (pa_cons (pv 3) (pa_cons (pe_bltn (v := .ty "tuple") (by rfl) T.tuple (by decide +kernel) rfl) pa_nil)))))))) (pss_one (ps_ret pe_bl)) pss_nil)
      (pss_cons (ps_if (pt_cmpR (op_inTD (hu65 hr)) (pv 3) (pe_tup (pa_cons (pe_tup (pa_cons pe_str pa_nil)) (pa_cons (pe_tup (pa_cons pe_str pa_nil)) pa_nil))) (by rfl)) (pss_one (ps_ret pe_bl)) pss_nil)
      (pss_cons (ps_if (PW.pt (pw_or (pt_cmpR op_ne (pe_callB call_len_seq (by rfl) T.len PySem.boot_len (pa_cons (pv 3) pa_nil)) pe_int (nomark _)) (pw_or (pt_cmpR op_ne (pe_ix (show IxR _ (rIxT K) from ix_tup) (pv 3) pe_int (fun _ _ => rfl)) pe_str (nomark _)) (pw_or1 (pt_not (pt_val (pe_call DA.ok (hr.mono (by omega)) rfl DA.g DA.kp DA.b .nil pass0 (pa_cons (pe_ix (show IxR _ (rIxT K) from ix_tup) (pv 3) pe_int (fun _ _ => rfl)) (pa_cons (pv 1) pa_nil))))))))) (pss_one (ps_ret pe_bl)) pss_nil)
      (pss_one (ps_ret (pe_and (pe_callB (call_isK W (T := "str") (by simp)) (by rfl) T.isi (by decide +kernel) (pa_cons (pe_ix (show IxR _ (rIxT K) from ix_tup) (pv 3) pe_int (fun _ _ => rfl)) (pa_cons (pe_bltn (v := .ty "str") (by rfl) T.str (by decide +kernel) rfl) pa_nil))) (pe_one (pe_callB (call_isK W (T := "str") (by simp)) (by rfl) T.isi (by decide +kernel) (pa_cons (pe_ix (show IxR _ (rIxT K) from ix_tup) (pv 3) pe_int (fun _ _ => rfl)) (pa_cons (pe_bltn (v := .ty "str") (by rfl) T.str (by decide +kernel) rfl) pa_nil)))))))))))), ?_⟩
    refine ⟨_, rfl, v, d, rfl, hd, _, rfl, ?_⟩
    have goF : mrD plain d = false → ∀ H', Same H H' → Q (.bl false) H' := fun e H' k' => e ▸ k H' k'
    rw [isT_tu]
    by_cases et : isTu d = true
    case neg =>
      have et := (Bool.not_eq_true _).mp et
      rw [et]
      refine iteC rfl (goF ?_ H (Same.refl H))
      cases d with
      | tup l => cases et
      | _ => rfl
    rw [et]
    refine iteN rfl ?_
    obtain ⟨l, rfl⟩ : ∃ l, d = .tup l := by
      cases d with
      | tup l => exact ⟨l, rfl⟩
      | _ => cases et
    obtain ⟨a, us, rfl, ha, hl⟩ := hd
    have ha : SqT K H a us := W.kk ▸ ha
    have el := hl.len
    refine ⟨_, rfl, a, us, rfl, .inr ha, rfl, _, rfl, ?_⟩
    by_cases e2 : l.length = 2
    case neg =>
      refine iteC (by simp; omega) (goF ?_ H (Same.refl H))
      match l, e2 with
      | [], _ => rfl
      | [_], _ => rfl
      | [_, _], e => exact absurd rfl e
      | _ :: _ :: _ :: _, _ => rfl
    refine iteN (by simp; omega) ?_
    obtain ⟨n, r, rfl⟩ : ∃ n r, l = [n, r] := by
      match l, e2 with
      | [n, r], _ => exact ⟨n, r, rfl⟩
    obtain ⟨v1, v2, rfl, h1, h2⟩ := len2 hl
    simp only [okM, Bool.and_eq_true] at hs
    refine ⟨_, rfl, a, _, rfl, ha, rfl, v1, _, rfl, v2, _, rfl, rfl, ?_⟩
    refine ⟨_, rfl, v1, n, rfl, h1, hs.1, fun H1 k1 => ⟨_, rfl, ?_⟩⟩
    have eg : mrD plain (.tup [n, r]) = (nmD n && (isTu r && (idr r || arr plain r))) := rfl
    cases e1 : nmD n with
    | false => exact iteC rfl (goF (by rw [eg, e1]; rfl) H1 k1)
    | true =>
      have h2' := W.dv k1 _ _ h2
      refine iteN rfl ⟨_, rfl, v2, r, rfl, h2', _, rfl, ?_⟩
      rw [isT_tu]
      cases e3 : isTu r with
      | false => exact iteC rfl (goF (by rw [eg, e1, e3]; rfl) H1 k1)
      | true =>
        rw [e1, e3] at eg
        refine iteN rfl ?_
        obtain ⟨m, rfl⟩ : ∃ m, r = .tup m := by
          cases r with
          | tup m => exact ⟨m, rfl⟩
          | _ => cases e3
        have hm := hs.2
        simp only [okRule, Bool.and_eq_true] at hm
        refine ⟨_, rfl, by show 1 ≤ sizeLine; decide, fun t1 n1 => ⟨by show 1 ≤ sizeLine; decide, fun t2 n2 => ⟨by show 2 ≤ sizeLine; decide, fun t3 n3 => ?_⟩⟩⟩
        have k4 : Same H1 (upd (upd (upd H1 t1 (.tup [.str "id"])) t2 (.tup [.str "mark"])) t3 (.tup [.ref t1, .ref t2])) := Same.upd (Same.upd (sm_upd n1) n2) n3
        have d1 : (upd (upd (upd H1 t1 (.tup [.str "id"])) t2 (.tup [.str "mark"])) t3 (.tup [.ref t1, .ref t2])) t1 = some (.tup [.str "id"]) := (Same.upd (sm_upd n2) n3) _ _ upd_same
        have d2 : (upd (upd (upd H1 t1 (.tup [.str "id"])) t2 (.tup [.str "mark"])) t3 (.tup [.ref t1, .ref t2])) t2 = some (.tup [.str "mark"]) := (sm_upd n3) _ _ upd_same
        have d3 : (upd (upd (upd H1 t1 (.tup [.str "id"])) t2 (.tup [.str "mark"])) t3 (.tup [.ref t1, .ref t2])) t3 = some (.tup [.ref t1, .ref t2]) := upd_same
        generalize (upd (upd (upd H1 t1 (.tup [.str "id"])) t2 (.tup [.str "mark"])) t3 (.tup [.ref t1, .ref t2])) = H4 at k4 d1 d2 d3
        have k14 := Same.trans k1 k4
        have h4 := W.dv k4 _ _ h2'
        refine ⟨.tuple (m.map py), [.tuple [.str "id"], .tuple [.str "mark"]], dp_row W.kk hm.1 h4, .tup (SqT.of d3) (.cons (.tup (SqT.of d1) (.cons (.str _) .nil)) (.cons (.tup (SqT.of d2) (.cons (.str _) .nil)) .nil)), shaped_row hm.1, by decide +kernel, _, rfl, ?_⟩
        rw [any_id hm.1]
        cases e5 : idr (.tup m) with
        | true => exact iteC rfl ((show mrD plain (.tup [n, .tup m]) = true by rw [eg, e5]; rfl) ▸ k H4 k14)
        | false =>
          refine iteN rfl ?_
          rw [e5] at eg
          have eg : mrD plain (.tup [n, .tup m]) = arr plain (.tup m) := eg
          obtain ⟨b, us2, rfl, hb, p2⟩ := h4
          have hb : SqT K H4 b us2 := W.kk ▸ hb
          have el2 := p2.len
          refine ⟨_, rfl, b, us2, rfl, .inr hb, rfl, _, rfl, ?_⟩
          by_cases e6 : m.length = 4
          case neg =>
            refine iteC (by simp; omega) (goF ?_ H4 k14)
            rw [eg]
            exact arr_len e6
          refine iteN (by simp; omega) ?_
          obtain ⟨x0, x1, x2, x3, rfl⟩ : ∃ a b c d, m = [a, b, c, d] := by
            match m, e6 with
            | [a, b, c, d], _ => exact ⟨a, b, c, d, rfl⟩
          have i0 : isS x0 = true := by simpa using hm.2
          obtain ⟨s0, rfl⟩ : ∃ s0, x0 = .str s0 := by
            cases x0 with
            | str s0 => exact ⟨s0, rfl⟩
            | _ => cases i0
          obtain ⟨w0, w1, w2, w3, rfl, g0, g1, g2, g3⟩ := len4 p2
          cases g0
          have ea : arr plain (.tup [.str s0, x1, x2, x3]) = (decide (s0 = "around") && (amD plain x1 && (isS x2 && isS x3))) := rfl
          refine ⟨_, rfl, b, _, _, _, rfl, rfl, hb, atI_nat (j := 0) (xs := [.str s0, w1, w2, w3]) rfl, rfl, _, rfl, ?_⟩
          by_cases e7 : s0 = "around"
          case neg => exact iteC (by simp [e7]) (goF (by rw [eg, ea, decide_eq_false e7]; rfl) H4 k14)
          refine iteN (by simp [e7]) ⟨_, rfl, b, _, _, _, rfl, rfl, hb, atI_nat (j := 1) (xs := [.str s0, w1, w2, w3]) rfl, _, rfl, w1, x1, ap, plain, rfl, g1, .inl (SqL.same hap k14), _, rfl, ?_⟩
          rw [decide_eq_true e7] at ea
          cases e8 : amD plain x1 with
          | false => exact iteC rfl (goF (by rw [eg, ea, e8]; rfl) H4 k14)
          | true =>
            rw [e8] at ea
            refine iteN rfl ⟨_, rfl, b, _, _, _, rfl, rfl, hb, atI_nat (j := 2) (xs := [.str s0, w1, w2, w3]) rfl, w2, x2, rfl, g2, _, rfl, ?_⟩
            rw [isT_st]
            cases e9 : isS x2 with
            | false => exact iteN rfl (goF (by rw [eg, ea, e9]; rfl) H4 k14)
            | true =>
              refine iteC rfl ⟨_, rfl, b, _, _, _, rfl, rfl, hb, atI_nat (j := 3) (xs := [.str s0, w1, w2, w3]) rfl, w3, x3, rfl, g3, ?_⟩
              rw [isT_st]
              exact (show mrD plain (.tup [n, .tup [.str s0, x1, x2, x3]]) = isS x3 by rw [eg, ea, e9]; rfl) ▸ k H4 k14
end
end Kd

set_option Elab.async false
set_option linter.all false
set_option maxRecDepth 100000
set_option maxHeartbeats 4000000
namespace Kd
open PySem PySem.Spec PyProof.Rows L2 Dq Vl
variable {OB : Type} {O : Obs OB} {od : OB → Bool}
/-- a comprehension with a test: what stands for the turns that are taken -/
theorem lc_flt {J : It} {n : Nat} {G : Hp → Prop} {Y : Nat → Hp → V → Hp → Prop} (w : Walk J n G Y) {g : TG} {tt : TT} {te : TE} {vs : List Nat} {σ : L2.St} {H1 : Hp} {D : Addr} {Qd : Hp → Prop} (hD : H1 D = none) (inb : Nat → Bool) (out : Nat → V) (hn : n < sizeLine) (hG : ∀ H, Same H1 H → G H)
    (hs : ∀ i x H H' (N : V → Hp → Prop) (M : Hp → Prop), i < n → Same H1 H → Y i H x H' → (inb i = true → ∀ H4, Same H H4 → N (out i) H4) → (inb i = false → ∀ H4, Same H H4 → M H4) →
      g x (wipe σ vs) H' fun σ2 H2 => wipe σ2 vs = wipe σ vs ∧ tt σ2 H2 fun b H3 => if b = true then te σ2 H3 N else M H3)
    (hd : ∀ H, Same H1 H → H D = some (.lst (((List.range n).filter inb).map out)) → Qd H) :
    ∃ W : Nat → Nat → Hp → Prop, (∃ m, W 0 m (upd H1 D (.lst []))) ∧ ∀ i m H, W i m H →
      (J.stop i H ∧ Qd H) ∨ (J.go i H ∧ ∃ Nx : Hp → Prop, (∀ H', Nx H' → ∃ m', m' < m ∧ W (i + 1) m' H') ∧ ∀ x H', J.yld i H x H' → g x (wipe σ vs) H' fun σ2 H2 => wipe σ2 vs = wipe σ vs ∧ tt σ2 H2 fun b H3 =>
        if b = true then te σ2 H3 fun y H4 => ∃ acc, H4 D = some (.lst acc) ∧ acc.length < sizeLine ∧ Nx (upd H4 D (.lst (acc ++ [y]))) else Nx H3) := by
  refine lc_it w (fun i H => Same H1 H ∧ H D = some (.lst (((List.range i).filter inb).map out))) ⟨sm_upd hD, upd_same⟩ (fun i H _ h => hG H h.1) (fun i x H H' hi h y => ?_) (fun H h => hd H h.1 h.2)
  refine hs i x H H' _ _ hi h.1 y (fun e H4 k => ⟨_, k _ _ h.2, ?_, ?_, ?_⟩) (fun e H4 k => ⟨Same.trans h.1 k, ?_⟩)
  · rw [List.length_map]
    have := List.length_filter_le inb (List.range i)
    rw [List.length_range] at this
    omega
  · intro b o eb
    have nb : b ≠ D := fun z => by rw [z, hD] at eb; cases eb
    rw [upd_ne nb]
    exact k b o (h.1 b o eb)
  · rw [upd_same, List.range_succ, List.filter_append, List.map_append]
    simp [e]
  · rw [k _ _ h.2, List.range_succ, List.filter_append, List.map_append]
    simp [e]
theorem flt_map {α : Type} {β : Type} (p : α → Bool) (f : α → β) (q : Nat → Bool) (g : Nat → β) : ∀ (l : List α), (∀ i a, l[i]? = some a → q i = p a ∧ g i = f a) → ((List.range l.length).filter q).map g = (l.filter p).map f := fun l h => by
  induction l generalizing q g with
  | nil => rfl
  | cons x l ih =>
    have h0 := h 0 x rfl
    have ih := ih (fun i => q (i + 1)) (fun i => g (i + 1)) (fun i a e => h (i + 1) a (by simpa using e))
    rw [List.length_cons, List.range_succ_eq_map, List.filter_cons, List.filter_cons, h0.1, List.filter_map]
    cases e : p x with
    | false =>
      simp only [Bool.false_eq_true, if_false, List.map_map]
      exact ih
    | true =>
      simp only [if_true, List.map_cons, List.map_map, h0.2]
      exact congrArg _ ih
end Kd

set_option Elab.async false
set_option linter.all false
set_option maxRecDepth 100000
set_option maxHeartbeats 4000000
namespace Kd
open PySem PySem.Spec PyProof.Rows L2 Dq Vl
variable {OB : Type} {O : Obs OB} {od : OB → Bool}
/-- the world tells it as it is kept -/
def plR : DV OB → Bool
  | .tup [_, _, _, r] => isNo r
  | _ => false
def plN (gl : List (DV OB)) : List Str := (gl.filter plR).map nm0
def isIdRule : DV OB → Bool
  | .tup [_, .tup [.str r]] => decide (r = "id")
  | _ => false
def isIdRow : DV OB → Bool
  | .tup [.str s, x] => decide (s = "id") && isIdRule (.tup [.str s, x])
  | _ => false
def pyr : DV OB → PyData
  | .tup [_, .tup m] => .tuple (m.map py)
  | _ => .none
theorem nm_ok {s : Str} (h : nmS s = true) : PyData.strOk s = true := by
  simp only [nmS, Bool.and_eq_true] at h
  unfold PyData.strOk
  rw [← Array.all_toList]
  refine List.all_eq_true.mpr fun c hc => ?_
  have h2 := List.all_eq_true.mp h.2 c hc
  simp only [ltr, Bool.and_eq_true, decide_eq_true_eq] at h2
  exact decide_eq_true (by omega)
/-- a row that is right -/
theorem mr_row {plain : List Str} {d : DV OB} (h : mrD plain d = true) (k : okM d = true) : ∃ s m, d = .tup [.str s, .tup m] ∧ m.all lfo = true ∧ nmS s = true := by
  match d, h with
  | .tup [n, r], h =>
    have e : mrD plain (.tup [n, r]) = (nmD n && (isTu r && (idr r || arr plain r))) := rfl
    rw [e, Bool.and_eq_true, Bool.and_eq_true] at h
    obtain ⟨s, rfl⟩ : ∃ s, n = .str s := by
      cases n with
      | str s => exact ⟨s, rfl⟩
      | _ => cases h.1
    obtain ⟨m, rfl⟩ : ∃ m, r = .tup m := by
      cases r with
      | tup m => exact ⟨m, rfl⟩
      | _ => cases h.2.1
    simp only [okM, okRule, Bool.and_eq_true] at k
    exact ⟨s, m, rfl, k.2.1, h.1⟩
theorem eqv_21 (x y z : PyData) (r : List PyData) : PyData.eqvAll (y :: z :: r) [x] = false := by rw [PyData.eqvAll, PyData.eqvAll, Bool.and_false]
theorem eqv_str (a b : Str) : PyData.eqv (.str a) (.str b) = decide (a = b) := by
  rw [PyData.eqv, Bool.eq_iff_iff]
  simp
theorem eqv_id {s : Str} {m : List (DV OB)} (e : m.all lfo = true) : PyData.eqv (.tuple (m.map py)) (.tuple [.str "id"]) = isIdRule (.tup [.str s, .tup m]) := by
  rw [eqv_t]
  match m, e with
  | [], _ => rfl
  | [x], e =>
    cases x with
    | str z =>
      show PyData.eqvAll [.str z] [.str "id"] = decide (z = "id")
      rw [PyData.eqvAll, eqv_str, PyData.eqvAll, Bool.and_true]
    | non => rfl
    | bl b => rfl
    | int i => rfl
    | _ => cases e
  | x :: y :: r, _ =>
    rw [List.map_cons, List.map_cons, eqv_21]
    cases x <;> rfl
theorem eqv_idrow {s : Str} {m : List (DV OB)} (e : m.all lfo = true) : PyData.eqv (.tuple [.str s, .tuple (m.map py)]) (.tuple [.str "id", .tuple [.str "id"]]) = isIdRow (.tup [.str s, .tup m]) := by
  show _ = (decide (s = "id") && isIdRule (.tup [.str s, .tup m]))
  rw [← eqv_id e, eqv_t, PyData.eqvAll, PyData.eqvAll, PyData.eqvAll, eqv_str, Bool.and_true]
theorem shaped_row2 {s : Str} {m : List (DV OB)} (e : m.all lfo = true) (h : nmS s = true) : SeqAt.shaped (.tuple [.str s, .tuple (m.map py)]) = true := by
  obtain ⟨a, b, _⟩ := lay_leaves m e
  unfold SeqAt.shaped
  simp only [PyData.canLay0, PyData.canLayAll0, a, PyData.depth, PyData.depthAll, b, nm_ok h]
  rfl
/-- rows of made attributes, held against the given ones -/
def mdsL (gl l : List (DV OB)) : Bool := l.all (mrD (plN gl)) && (!l.isEmpty && (isIdRow (l.headD .non) && (decide (l.countP isIdRule = 1) && (decide (gl.map nm0 ++ l.map nm0).Nodup && decide (gl.length + l.length ≤ 8)))))
def mdsD (gl : List (DV OB)) : DV OB → Bool
  | .tup l => mdsL gl l
  | _ => false
def okMs : DV OB → Bool
  | .tup l => l.all okM && decide (l.length ≤ 1000)
  | _ => true
def spMds (K : PySem.W.Frag) (O : Obs OB) : Sp := fun vs H Q _ => ∃ (v vg : V) (d : DV OB) (gl : List (DV OB)), vs = [v, vg] ∧ Dv O H d v ∧ Dv O H (.tup gl) vg ∧ okMs d = true ∧ gl.all gvD = true ∧ gl.length ≤ 1000 ∧ ∀ H', Same H H' → Q (.bl (mdsD gl d)) H'
abbrev sMds : Stmt := Pf.top 19
abbrev NMds : List Str := ["rows", "given", "plain", "row", "rules", "names"]
theorem scMds : FnScope NMds ["rows", "given"] (defScope sMds) := ⟨rfl, rfl, rfl, by decide +kernel, rfl, by decide +kernel, by decide +kernel⟩
theorem gv_row {K : PySem.W.Frag} (kk : O.K = K) {H : Hp} {d : DV OB} {v : V} (h : Dv O H d v) (e : gvD d = true) : ∃ (a : Addr) (u1 u2 u3 : V) (r : DV OB), v = .ref a ∧ SqT K H a [.str (nm0 d), u1, u2, u3] ∧ Dv O H r u3 ∧ plR d = isNo r := by
  match d, e with
  | .tup [n, s, f, r], e =>
    obtain ⟨t, et⟩ := gv_named e
    obtain ⟨a, us, rfl, ha, hl⟩ := h
    obtain ⟨v1, v2, v3, v4, rfl, h1, h2, h3, h4⟩ := len4 hl
    simp only [DV.tup.injEq, List.cons.injEq] at et
    rw [et.1] at h1
    cases h1
    exact ⟨a, v2, v3, v4, r, rfl, kk ▸ ha, h4, rfl⟩
theorem mr_at {K : PySem.W.Frag} (kk : O.K = K) {H : Hp} {s : Str} {m : List (DV OB)} {v : V} (h : Dv O H (.tup [.str s, .tup m]) v) : ∃ (a : Addr) (u : V), v = .ref a ∧ SqT K H a [.str s, u] ∧ Dv O H (.tup m) u := by
  obtain ⟨a, us, rfl, ha, hl⟩ := h
  obtain ⟨v1, v2, rfl, h1, h2⟩ := len2 hl
  cases h1
  exact ⟨a, v2, rfl, kk ▸ ha, h2⟩
structure TxtM (mg : Str → Option Value) : Prop where
  most : ∃ t, mg "MOST_ATTRIBUTES" = some (.int 8 t)
end Kd

set_option Elab.async false
set_option linter.all false
set_option maxRecDepth 100000
set_option maxHeartbeats 4000000
namespace Kd
open PySem PySem.Spec PyProof.Rows L2 Dq Vl
variable {OB : Type} {O : Obs OB} {od : OB → Bool}
/-- the rules of the rows -/
theorem rules_of {K : PySem.W.Frag} (W : Tw K O od) {H : Hp} {plain : List Str} : ∀ {l : List (DV OB)} {us : List V}, DvL O H l us → (∀ d ∈ l, mrD plain d = true ∧ okM d = true) →
    ∃ rus : List V, rus.length = l.length ∧ (∀ H', Same H H' → DpAll K H' rus (l.map pyr)) ∧ ∀ (i : Nat) (y : V), us[i]? = some y → ∃ (b : Addr) (s : Str) (u : V) (x : DV OB), y = .ref b ∧ rus[i]? = some u ∧ SqT K H b [.str s, u] ∧ l[i]? = some x ∧ nm0 x = s
  | [], _, h, _ => by
    cases h
    exact ⟨[], rfl, fun _ _ => .nil, fun i y e => by simp at e⟩
  | x :: l, _, ⟨u, us, e, h, p⟩, g => by
    subst e
    obtain ⟨rus, r1, r2, r3⟩ := rules_of W p fun d hd => g d (List.mem_cons_of_mem _ hd)
    obtain ⟨s, m, rfl, hm, _⟩ := mr_row (g x List.mem_cons_self).1 (g x List.mem_cons_self).2
    obtain ⟨b, w, rfl, hb, hw⟩ := mr_at W.kk h
    refine ⟨w :: rus, by simp [r1], fun H' k => .cons (dp_row W.kk hm (W.dv k _ _ hw)) (r2 H' k), fun i y ey => ?_⟩
    cases i with
    | zero =>
      simp only [List.getElem?_cons_zero, Option.some.injEq] at ey
      exact ⟨b, s, w, _, ey.symm, rfl, hb, rfl, rfl⟩
    | succ i =>
      obtain ⟨b', s', u', x', e1, e2, e3, e4, e5⟩ := r3 i y (by simpa using ey)
      exact ⟨b', s', u', x', e1, by simpa using e2, e3, by simpa using e4, e5⟩
theorem plain_rows {plain : List Str} : ∀ {l : List (DV OB)}, (∀ d ∈ l, mrD plain d = true ∧ okM d = true) → PyData.plainAll (l.map pyr) = true ∧ (l.map pyr).countP (fun z => PyData.eqv z (.tuple [.str "id"])) = l.countP isIdRule
  | [], _ => ⟨rfl, rfl⟩
  | x :: l, g => by
    obtain ⟨a, b⟩ := plain_rows fun d hd => g d (List.mem_cons_of_mem _ hd)
    obtain ⟨s, m, rfl, hm, _⟩ := mr_row (g x List.mem_cons_self).1 (g x List.mem_cons_self).2
    obtain ⟨_, _, c⟩ := lay_leaves m hm
    refine ⟨?_, ?_⟩
    · rw [List.map_cons, PyData.plainAll, a]
      show ((PyData.tuple (m.map py)).plain && true) = true
      rw [PyData.plain, c]
      rfl
    · rw [List.map_cons, List.countP_cons, List.countP_cons, b]
      show _ + (if PyData.eqv (.tuple (m.map py)) (.tuple [.str "id"]) = true then 1 else 0) = _
      rw [eqv_id (s := s) hm]
section
variable {P : Program} {w : World} {K : PySem.W.Frag} {mg : Str → Option Value} {base : Heap}
theorem ok_mds {f fM fU : Addr} {fd fdM fdU : FuncData} (F : Fun K "_are_made" "_are_made" sMds f fd) (T : TxtK mg) (TM : TxtM mg) (W : Tw K O od)
    (DM : Def P w K mg base 2 "_is_made" fM fdM ["row", "plain"] (spMad K O)) (DU : Def P w K mg base 1 "are_unlike" fU fdU ["names"] (spUnl K)) :
    FnOk P w K mg base CX0 3 f fd ["rows", "given"] (spMds K O) := by
  obtain ⟨mt, hmost⟩ := TM.most
  refine F.ok scMds (fun vs H Q E h => ?_) (fun cdv A outer s H vs Q E hr h => ?_)
  · obtain ⟨v, vg, d, gl, rfl, _⟩ := h
    rfl
  · obtain ⟨v, vg, d, gl, rfl, hd, hg, hs, gg, gn, k⟩ := h
    refine ⟨_, (pss_cons (ps_set (i := 2) scMds.nd rfl (Or.inr rfl) (pe_lc (own := [("row", 3)]) (g := gName 3) rfl scMds.nd (pi_tup (pv 1)) (blkOk_by (N := NMds) (sc := defScope sMds) (by decide +kernel)) (fun _ _ _ _ _ => pg_name (i := 3) scMds.nd rfl (Or.inl rfl))
        (fun _ _ _ _ _ => pts_one (pt_cmpR op_isN (pe_ix (show IxR _ (rIxT K) from ix_tup) (pv 3) pe_int (fun _ _ => rfl)) pe_non (nomark _))) (fun _ _ _ _ _ => pe_ix (show IxR _ (rIxT K) from ix_tup) (pv 3) pe_int (fun _ _ => rfl))))
      (pss_cons (ps_if (PW.pt (pw_or (pt_not (pt_val (pe_callB (call_isK W (T := "tuple") (by simp)) (by rfl) T.isi (by decide +kernel) (pa_cons (pv 0) (pa_cons (pe_bltn (v := .ty "tuple") (by rfl) T.tuple (by decide +kernel) rfl) pa_nil))))) (pw_or1 (pt_not (pt_val (pe_callB (cr_all rfl) (by rfl) T.all (by decide +kernel) (pa_cons (pe_lc (own := [("row", 3)]) (g := gName 3) (tt := tYes) rfl scMds.nd (pi_tup (pv 0)) (blkOk_by (N := NMds) (sc := defScope sMds) (by decide +kernel)) (fun _ _ _ _ _ => pg_name (i := 3) scMds.nd rfl (Or.inl rfl)) (fun _ _ _ _ _ => pts_nil)
        (fun _ _ _ _ _ => pe_call DM.ok (hr.mono (by omega)) rfl DM.g DM.kp DM.b .nil pass0 (pa_cons (pv 3) (pa_cons (pv 2) pa_nil)))) pa_nil))))))) (pss_one (ps_ret pe_bl)) pss_nil)
      (pss_cons (ps_setLc (i := 4) (own := [("row", 3)]) (g := gName 3) (tt := tYes) rfl scMds.nd rfl rfl (sw_true rfl rfl rfl (by decide +kernel)) (pi_tup (pv 0)) (blkOk_by (N := NMds) (sc := defScope sMds) (by decide +kernel)) (fun _ _ _ _ _ => pg_name (i := 3) scMds.nd rfl (Or.inl rfl)) (fun _ _ _ _ _ => pts_nil) (fun _ _ _ _ _ => pe_ix (show IxR _ (rIxT K) from ix_tup) (pv 3) pe_int (fun _ _ => rfl)))
      (pss_cons (ps_if (PW.pt (pw_or (pt_not (pt_truth (pv 0) (fun _ => rfl))) (pw_or (pt_cmpR (op_neD hr.units) (pe_ix (show IxR _ (rIxT K) from ix_tup) (pv 0) pe_int (fun _ _ => rfl)) (pe_tup (pa_cons pe_str (pa_cons (pe_tup (pa_cons pe_str pa_nil)) pa_nil))) (nomark _)) (pw_or1 (pt_cmpR op_ne (pe_bm PySem.F.plainAttrs_list PySem.F.slot_list_count PySem.F.type_list_count (mt_countD (hu65 hr)) (pv 4) (pa_cons (pe_tup (pa_cons pe_str pa_nil)) pa_nil)) pe_int (nomark _)))))) (pss_one (ps_ret pe_bl)) pss_nil)
      (pss_cons (ps_set (i := 5) scMds.nd rfl (Or.inl rfl) (pe_op op_cat (pe_lc (own := [("row", 3)]) (g := gName 3) (tt := tYes) rfl scMds.nd (pi_tup (pv 1)) (blkOk_by (N := NMds) (sc := defScope sMds) (by decide +kernel)) (fun _ _ _ _ _ => pg_name (i := 3) scMds.nd rfl (Or.inl rfl)) (fun _ _ _ _ _ => pts_nil) (fun _ _ _ _ _ => pe_ix (show IxR _ (rIxT K) from ix_tup) (pv 3) pe_int (fun _ _ => rfl)))
        (pe_lc (own := [("row", 3)]) (g := gName 3) (tt := tYes) rfl scMds.nd (pi_tup (pv 0)) (blkOk_by (N := NMds) (sc := defScope sMds) (by decide +kernel)) (fun _ _ _ _ _ => pg_name (i := 3) scMds.nd rfl (Or.inl rfl)) (fun _ _ _ _ _ => pts_nil) (fun _ _ _ _ _ => pe_ix (show IxR _ (rIxT K) from ix_tup) (pv 3) pe_int (fun _ _ => rfl)))))
      (pss_one (ps_ret (pe_and (pe_call DU.ok (hr.mono (by omega)) rfl DU.g DU.kp DU.b .nil pass0 (pa_cons (pv 5) pa_nil)) (pe_one (pe_cmp (pc_le (pe_callB call_len_seq (by rfl) T.len PySem.boot_len (pa_cons (pv 5) pa_nil)) (pe_glob (v := .int 8) rfl hmost ⟨_, rfl⟩)) rfl)))))))))), ?_⟩
    have goF : mdsD gl d = false → ∀ H', Same H H' → Q (.bl false) H' := fun e H' k' => e ▸ k H' k'
    obtain ⟨ag, ug, rfl, hag, hgl⟩ := hg
    have hag : SqT K H ag ug := W.kk ▸ hag
    have elg := hgl.len
    have smg : ug.length < sizeLine := by rw [elg]; exact Nat.lt_of_le_of_lt gn (by decide)
    refine ⟨_, rfl, ag, rfl, ⟨_, hag⟩, fun D0 hD0 => ?_⟩
    refine lc_flt (walk_tup (xs := ug)) hD0 (fun i => plR (gl.getD i .non)) (fun i => .str (nm0 (gl.getD i .non))) smg (fun H2 k2 => SqT.same hag k2) (fun i y H2 H2' N M hi k2 hy q1 q2 => ?_) (fun H0 k0 h0 => ?_)
    · obtain ⟨rfl, ex⟩ := hy
      obtain ⟨x, e1, hx⟩ := rowAt hgl ex
      have eg : gl.getD i .non = x := by rw [List.getD_eq_getElem?_getD, e1]; rfl
      rw [eg] at q1 q2
      obtain ⟨b, u1, u2, u3, r, rfl, hb, hr3, er⟩ := gv_row W.kk (W.dv k2 _ _ hx) (List.all_eq_true.mp gg x (List.mem_of_getElem? e1))
      refine ⟨rfl, _, rfl, b, _, _, _, rfl, rfl, hb, atI_nat (j := 3) (xs := [.str (nm0 x), u1, u2, u3]) rfl, rfl, _, rfl, ?_⟩
      rw [isN_no W hr3, ← er]
      cases e9 : plR x with
      | true => exact iteC rfl ⟨_, rfl, b, _, _, _, rfl, rfl, hb, atI_nat (j := 0) (xs := [.str (nm0 x), u1, u2, u3]) rfl, q1 e9 _ (Same.refl _)⟩
      | false => exact iteN rfl (q2 e9 _ (Same.refl _))
    have eP : ((List.range ug.length).filter fun i => plR (gl.getD i .non)).map (fun i => V.str (nm0 (gl.getD i .non))) = (plN gl).map V.str := by
      rw [elg, plN, List.map_map]
      exact flt_map plR (V.str ∘ nm0) _ _ gl fun i a e => by rw [List.getD_eq_getElem?_getD, e]; exact ⟨rfl, rfl⟩
    rw [eP] at h0
    refine ⟨_, rfl, v, d, rfl, W.dv k0 _ _ hd, _, rfl, ?_⟩
    rw [isT_tu]
    by_cases et : isTu d = true
    case neg =>
      have et := (Bool.not_eq_true _).mp et
      rw [et]
      refine iteC rfl (goF ?_ H0 k0)
      cases d with
      | tup l => cases et
      | _ => rfl
    rw [et]
    obtain ⟨l, rfl⟩ : ∃ l, d = .tup l := by
      cases d with
      | tup l => exact ⟨l, rfl⟩
      | _ => cases et
    obtain ⟨a, us, rfl, ha, hl⟩ := hd
    have ha : SqT K H a us := W.kk ▸ ha
    have el := hl.len
    simp only [okMs, Bool.and_eq_true, decide_eq_true_eq] at hs
    have sml : us.length < sizeLine := by rw [el]; exact Nat.lt_of_le_of_lt hs.2 (by decide)
    refine iteN rfl ⟨_, rfl, a, rfl, ⟨_, SqT.same ha k0⟩, fun D1 hD1 => ?_⟩
    refine lc_out (walk_tup (xs := us)) hD1 (fun i => .bl (mrD (plN gl) (l.getD i .non))) sml (fun H2 k2 => SqT.same (SqT.same ha k0) k2) (fun i y H2 H2' N hi k2 hy q => ?_) (fun H1 k1' h1 => ?_)
    · obtain ⟨rfl, ex⟩ := hy
      obtain ⟨x, e1, hx⟩ := rowAt hl ex
      have eg : l.getD i .non = x := by rw [List.getD_eq_getElem?_getD, e1]; rfl
      rw [eg] at q
      exact ⟨rfl, y, rfl, _, rfl, y, x, D0, plN gl, rfl, W.dv (Same.trans k0 k2) _ _ hx, List.all_eq_true.mp hs.1 x (List.mem_of_getElem? e1), SqL.of (k2 _ _ h0), fun H3 k3 => q H3 k3⟩
    have k1 := Same.trans k0 k1'
    refine ⟨D1, l.map (mrD (plN gl)), rfl, SqL.of ?_, _, rfl, ?_⟩
    · rw [h1, List.map_map, el]
      exact congrArg (fun z => some (HO.lst z)) (range_map (fun c => V.bl (mrD (plN gl) c)) _ l fun i a h => by rw [List.getD_eq_getElem?_getD, h]; rfl)
    rw [all_map]
    have em : mdsD gl (.tup l) = mdsL gl l := rfl
    cases eg : l.all (mrD (plN gl)) with
    | false => exact iteC rfl (goF (by rw [em, mdsL, eg]; rfl) H1 k1)
    | true =>
      have gr : ∀ d ∈ l, mrD (plN gl) d = true ∧ okM d = true := fun d hd => ⟨List.all_eq_true.mp eg d hd, List.all_eq_true.mp hs.1 d hd⟩
      obtain ⟨rus, r1, r2, r3⟩ := rules_of W hl gr
      obtain ⟨p1, p2⟩ := plain_rows gr
      rw [mdsL, eg, Bool.true_and] at em
      refine iteN rfl ⟨_, rfl, a, rfl, ⟨_, SqT.same ha k1⟩, fun D2 hD2 => ?_⟩
      refine lc_out (walk_tup (xs := us)) hD2 (fun i => rus.getD i .non) sml (fun H2 k2 => SqT.same (SqT.same ha k1) k2) (fun i y H2 H2' N hi k2 hy q => ?_) (fun H2 k2' h2 => ?_)
      · obtain ⟨rfl, ex⟩ := hy
        obtain ⟨b, s1, u1, _, rfl, e2, hb, _⟩ := r3 i y ex
        have eg : rus.getD i .non = u1 := by rw [List.getD_eq_getElem?_getD, e2]; rfl
        rw [eg] at q
        exact ⟨rfl, _, rfl, b, _, _, _, rfl, rfl, SqT.same (SqT.same hb k1) k2, atI_nat (j := 1) (xs := [.str s1, u1]) rfl, q _ (Same.refl _)⟩
      have k2 := Same.trans k1 k2'
      have eR : (List.range us.length).map (fun i => rus.getD i .non) = rus := by
        rw [el, ← r1]
        exact (range_map (fun z : V => z) _ rus fun i a h => by rw [List.getD_eq_getElem?_getD, h]; rfl).trans (List.map_id _)
      rw [eR] at h2
      refine ⟨_, rfl, _, .inr (.inl ⟨_, SqT.same ha k2, rfl⟩), ?_⟩
      cases l with
      | nil =>
        obtain rfl : us = [] := List.length_eq_zero_iff.mp el
        exact iteC rfl (goF em H2 k2)
      | cons x0 l' =>
        obtain ⟨u0, us', rfl, hx0, hl'⟩ := hl
        obtain ⟨s0, m0, rfl, hm0, hs0⟩ := mr_row (gr x0 List.mem_cons_self).1 (gr x0 List.mem_cons_self).2
        refine iteN rfl ⟨_, rfl, a, _, _, _, rfl, rfl, SqT.same ha k2, atI_nat (j := 0) rfl, by show 1 ≤ sizeLine; decide, fun t1 n1 => ⟨by show 2 ≤ sizeLine; decide, fun t2 n2 => ?_⟩⟩
        have k3' : Same H2 (upd (upd H2 t1 (.tup [.str "id"])) t2 (.tup [.str "id", .ref t1])) := Same.upd (sm_upd n1) n2
        have d1 : (upd (upd H2 t1 (.tup [.str "id"])) t2 (.tup [.str "id", .ref t1])) t1 = some (.tup [.str "id"]) := (sm_upd n2) _ _ upd_same
        have d2 : (upd (upd H2 t1 (.tup [.str "id"])) t2 (.tup [.str "id", .ref t1])) t2 = some (.tup [.str "id", .ref t1]) := upd_same
        generalize (upd (upd H2 t1 (.tup [.str "id"])) t2 (.tup [.str "id", .ref t1])) = H3 at k3' d1 d2
        have k3 := Same.trans k2 k3'
        obtain ⟨b0, w0, rfl, hb0, hw0⟩ := mr_at W.kk hx0
        refine ⟨.tuple [.str s0, .tuple (m0.map py)], .tuple [.str "id", .tuple [.str "id"]], .tup (SqT.same hb0 k3) (.cons (.str _) (.cons (dp_row W.kk hm0 (W.dv k3 _ _ hw0)) .nil)), .tup (SqT.of d2) (.cons (.str _) (.cons (.tup (SqT.of d1) (.cons (.str _) .nil)) .nil)), shaped_row2 hm0 hs0, by decide +kernel, _, rfl, ?_⟩
        rw [eqv_idrow hm0]
        have em : mdsD gl (.tup (.tup [.str s0, .tup m0] :: l')) = (isIdRow (.tup [.str s0, .tup m0]) && (decide ((DV.tup [.str s0, .tup m0] :: l').countP isIdRule = 1) && (decide (gl.map nm0 ++ (DV.tup [.str s0, .tup m0] :: l').map nm0).Nodup && decide (gl.length + (DV.tup [.str s0, .tup m0] :: l').length ≤ 8)))) := em
        cases e4 : isIdRow (DV.tup [.str s0, .tup m0] : DV OB) with
        | false => exact iteC rfl (goF (by rw [em, e4]; rfl) H3 k3)
        | true =>
          rw [e4, Bool.true_and] at em
          refine iteN rfl ⟨_, rfl, .inl ⟨rfl, _, SqL.of (k3' _ _ h2)⟩, by show 1 ≤ sizeLine; decide, fun t3 n3 => ?_⟩
          have k4 := Same.trans k3 (sm_upd (o := .tup [.str "id"]) n3)
          have d3 : (upd H3 t3 (.tup [.str "id"])) t3 = some (.tup [.str "id"]) := upd_same
          have h2' : (upd H3 t3 (.tup [.str "id"])) D2 = some (.lst rus) := (sm_upd n3) _ _ (k3' _ _ h2)
          generalize (upd H3 t3 (.tup [.str "id"])) = H4 at k4 d3 h2'
          refine ⟨D2, rus, .ref t3, .tuple [.str "id"], _, rfl, rfl, SqL.of h2', r2 H4 k4, .tup (SqT.of d3) (.cons (.str _) .nil), by decide +kernel, p1, rfl, _, rfl, ?_⟩
          rw [p2]
          by_cases e5 : (DV.tup [.str s0, .tup m0] :: l').countP isIdRule = 1
          case neg => exact iteC (by simp; omega) (goF (by rw [em, decide_eq_false e5]; rfl) H4 k4)
          rw [decide_eq_true e5, Bool.true_and] at em
          refine iteN (by simp [e5]) ⟨_, rfl, ag, rfl, ⟨_, SqT.same hag k4⟩, fun D3 hD3 => ?_⟩
          refine lc_out (walk_tup (xs := ug)) hD3 (fun i => .str (nm0 (gl.getD i .non))) smg (fun H5 k5 => SqT.same (SqT.same hag k4) k5) (fun i y H5 H5' N hi k5 hy q => ?_) (fun H5 k5' h5 => ?_)
          · obtain ⟨rfl, ex⟩ := hy
            obtain ⟨x, e1, hx⟩ := rowAt hgl ex
            have eg : gl.getD i .non = x := by rw [List.getD_eq_getElem?_getD, e1]; rfl
            rw [eg] at q
            obtain ⟨b, u1, u2, u3, r, rfl, hb, _⟩ := gv_row W.kk hx (List.all_eq_true.mp gg x (List.mem_of_getElem? e1))
            exact ⟨rfl, _, rfl, b, _, _, _, rfl, rfl, SqT.same (SqT.same hb k4) k5, atI_nat (j := 0) (xs := [.str (nm0 x), u1, u2, u3]) rfl, q _ (Same.refl _)⟩
          have k5 := Same.trans k4 k5'
          refine ⟨_, rfl, a, rfl, ⟨_, SqT.same ha k5⟩, fun D4 hD4 => ?_⟩
          refine lc_out (walk_tup (xs := .ref b0 :: us')) hD4 (fun i => .str (nm0 ((DV.tup [.str s0, .tup m0] :: l').getD i .non))) sml (fun H6 k6 => SqT.same (SqT.same ha k5) k6) (fun i y H6 H6' N hi k6 hy q => ?_) (fun H6 k6' h6 => ?_)
          · obtain ⟨rfl, ex⟩ := hy
            obtain ⟨b, s1, u1, x, rfl, e2, hb, e7, e8⟩ := r3 i y ex
            have eg : (DV.tup [.str s0, .tup m0] :: l').getD i .non = x := by rw [List.getD_eq_getElem?_getD, e7]; rfl
            rw [eg, e8] at q
            exact ⟨rfl, _, rfl, b, _, _, _, rfl, rfl, SqT.same (SqT.same hb k5) k6, atI_nat (j := 0) (xs := [.str s1, u1]) rfl, q _ (Same.refl _)⟩
          have k6 := Same.trans k5 k6'
          have eA : (List.range ug.length).map (fun i => V.str (nm0 (gl.getD i .non))) = (gl.map nm0).map V.str := by
            rw [elg, List.map_map]
            exact range_map (V.str ∘ nm0) _ gl fun i a h => by rw [List.getD_eq_getElem?_getD, h]; rfl
          have eB : (List.range (V.ref b0 :: us').length).map (fun i => V.str (nm0 ((DV.tup [.str s0, .tup m0] :: l').getD i .non))) = ((DV.tup [.str s0, .tup m0] :: l').map nm0).map V.str := by
            rw [el, List.map_map]
            exact range_map (V.str ∘ nm0) _ _ fun i a h => by rw [List.getD_eq_getElem?_getD, h]; rfl
          rw [eA] at h5
          rw [eB] at h6
          refine ⟨D3, D4, _, _, rfl, rfl, k6' _ _ h5, h6, ?_, fun D5 hD5 => ?_⟩
          · rw [List.length_map, List.length_map, List.length_map, List.length_map]
            have : gl.length + (DV.tup [.str s0, .tup m0] :: l').length ≤ 2000 := by omega
            exact Nat.le_trans this (by decide)
          have k7 := Same.trans k6 (sm_upd (o := .lst ((gl.map nm0).map V.str ++ ((DV.tup [.str s0, .tup m0] :: l').map nm0).map V.str)) hD5)
          rw [← List.map_append] at k7 ⊢
          refine ⟨_, rfl, D5, _, rfl, SqL.of upd_same, ?_, _, rfl, ?_⟩
          · rw [List.length_append, List.length_map, List.length_map]
            omega
          cases e6 : decide (gl.map nm0 ++ (DV.tup [.str s0, .tup m0] :: l').map nm0).Nodup with
          | false => exact iteN rfl (goF (by rw [em, e6]; rfl) _ k7)
          | true =>
            refine iteC rfl ⟨_, rfl, D5, _, rfl, .inl (SqL.of upd_same), _, _, rfl, rfl, ?_⟩
            have e8 : mdsD gl (.tup (.tup [.str s0, .tup m0] :: l')) = decide ((((gl.map nm0 ++ (DV.tup [.str s0, .tup m0] :: l').map nm0).map V.str).length : Int) ≤ 8) := by
              rw [em, e6, Bool.true_and, List.length_map, List.length_append, List.length_map, List.length_map]
              exact decide_eq_decide.mpr (by omega)
            have z := k _ k7
            rw [e8] at z
            exact z
end
end Kd

set_option Elab.async false
set_option linter.all false
set_option maxRecDepth 100000
set_option maxHeartbeats 4000000
namespace Kd
open PySem PySem.Spec PyProof.Rows L2 Dq Vl
variable {OB : Type} {O : Obs OB} {od : OB → Bool}
abbrev sHld : Stmt := Pf.top 21
abbrev NHld : List Str := ["thing", "names", "name"]
theorem scHld : FnScope NHld ["thing", "names"] (defScope sHld) := ⟨rfl, rfl, rfl, by decide +kernel, rfl, by decide +kernel, by decide +kernel⟩
def sOf : DV OB → Str
  | .str s => s
  | _ => Str.empty
def hldL (names : List Str) (l : List (DV OB)) : Bool := l.all (amD names) && decide (l.map sOf).Nodup
/-- held names -/
def hldD (names : List Str) : DV OB → Bool
  | .tup l => hldL names l
  | _ => false
def okH : DV OB → Bool
  | .tup l => decide (l.length ≤ 1000)
  | _ => true
def spHld (K : PySem.W.Frag) (O : Obs OB) : Sp := fun vs H Q _ => ∃ (v : V) (d : DV OB) (a : Addr) (names : List Str), vs = [v, .ref a] ∧ Dv O H d v ∧ okH d = true ∧ SqL K H a (names.map V.str) ∧ ∀ H', Same H H' → Q (.bl (hldD names d)) H'
theorem strs_of {H : Hp} {names : List Str} : ∀ {l : List (DV OB)} {us : List V}, DvL O H l us → l.all (amD names) = true → us = (l.map sOf).map V.str
  | [], _, h, _ => by cases h; rfl
  | x :: l, _, ⟨u, us, e, h, p⟩, g => by
    simp only [List.all_cons, Bool.and_eq_true] at g
    subst e
    rw [List.map_cons, List.map_cons, ← strs_of p g.2]
    cases x with
    | str s => cases h; rfl
    | _ => cases g.1
section
variable {P : Program} {w : World} {K : PySem.W.Frag} {mg : Str → Option Value} {base : Heap}
theorem ok_hld {f fA fU : Addr} {fd fdA fdU : FuncData} (F : Fun K "_are_held" "_are_held" sHld f fd) (T : TxtK mg) (W : Tw K O od)
    (DA : Def P w K mg base 1 "_is_among" fA fdA ["thing", "names"] (spAmo K O)) (DU : Def P w K mg base 1 "are_unlike" fU fdU ["names"] (spUnl K)) :
    FnOk P w K mg base CX0 2 f fd ["thing", "names"] (spHld K O) := by
  refine F.ok scHld (fun vs H Q E h => ?_) (fun cdv A outer s H vs Q E hr h => ?_)
  · obtain ⟨v, d, a, names, rfl, _⟩ := h
    rfl
  · obtain ⟨v, d, an, names, rfl, hd, hs, han, k⟩ := h
    refine ⟨_, (pss_cons (ps_if (PW.pt (pw_or (pt_not (pt_val (pe_callB (call_isK W (T := "tuple") (by simp)) (by rfl) T.isi (by decide +kernel) (pa_cons (pv 0) (pa_cons (pe_bltn (v := .ty "tuple") (by rfl) T.tuple (by decide +kernel) rfl) pa_nil))))) (pw_or1 (pt_not (pt_val (pe_callB (cr_all rfl) (by rfl) T.all (by decide +kernel) (pa_cons (pe_lc (own := [("name", 2)]) (g := gName 2) (tt := tYes) rfl scHld.nd (pi_tup (pv 0)) (blkOk_by (N := NHld) (sc := defScope sHld) (by decide +kernel)) (fun _ _ _ _ _ => pg_name (i := 2) scHld.nd rfl (Or.inl rfl)) (fun _ _ _ _ _ => pts_nil)
        (fun _ _ _ _ _ => pe_call DA.ok (hr.mono (by omega)) rfl DA.g DA.kp DA.b .nil pass0 (pa_cons (pv 2) (pa_cons (pv 1) pa_nil)))) pa_nil))))))) (pss_one (ps_ret pe_bl)) pss_nil)
      (pss_one (ps_ret (pe_call DU.ok (hr.mono (by omega)) rfl DU.g DU.kp DU.b .nil pass0 (pa_cons (pe_callTy call_list_of (by rfl) T.list (by decide +kernel) (pa_cons (pv 0) pa_nil)) pa_nil))))), ?_⟩
    have goF : hldD names d = false → ∀ H', Same H H' → Q (.bl false) H' := fun e H' k' => e ▸ k H' k'
    refine ⟨_, rfl, v, d, rfl, hd, _, rfl, ?_⟩
    rw [isT_tu]
    by_cases et : isTu d = true
    case neg =>
      have et := (Bool.not_eq_true _).mp et
      rw [et]
      refine iteC rfl (goF ?_ H (Same.refl H))
      cases d with
      | tup l => cases et
      | _ => rfl
    rw [et]
    obtain ⟨l, rfl⟩ : ∃ l, d = .tup l := by
      cases d with
      | tup l => exact ⟨l, rfl⟩
      | _ => cases et
    obtain ⟨a, us, rfl, ha, hl⟩ := hd
    have ha : SqT K H a us := W.kk ▸ ha
    have el := hl.len
    have hs : l.length ≤ 1000 := of_decide_eq_true hs
    have sml : us.length < sizeLine := by rw [el]; exact Nat.lt_of_le_of_lt hs (by decide)
    refine iteN rfl ⟨_, rfl, a, rfl, ⟨_, ha⟩, fun D1 hD1 => ?_⟩
    refine lc_out (walk_tup (xs := us)) hD1 (fun i => .bl (amD names (l.getD i .non))) sml (fun H2 k2 => SqT.same ha k2) (fun i y H2 H2' N hi k2 hy q => ?_) (fun H1 k1 h1 => ?_)
    · obtain ⟨rfl, ex⟩ := hy
      obtain ⟨x, e1, hx⟩ := rowAt hl ex
      have eg : l.getD i .non = x := by rw [List.getD_eq_getElem?_getD, e1]; rfl
      rw [eg] at q
      exact ⟨rfl, y, rfl, _, rfl, y, x, an, names, rfl, W.dv k2 _ _ hx, .inl (SqL.same han k2), q _ (Same.refl _)⟩
    refine ⟨D1, l.map (amD names), rfl, SqL.of ?_, _, rfl, ?_⟩
    · rw [h1, List.map_map, el]
      exact congrArg (fun z => some (HO.lst z)) (range_map (fun c => V.bl (amD names c)) _ l fun i a h => by rw [List.getD_eq_getElem?_getD, h]; rfl)
    rw [all_map]
    have em : hldD names (.tup l) = hldL names l := rfl
    cases eg : l.all (amD names) with
    | false => exact iteC rfl (goF (by rw [em, hldL, eg]; rfl) H1 k1)
    | true =>
      rw [hldL, eg, Bool.true_and] at em
      have eu := strs_of hl eg
      refine iteN rfl ⟨_, rfl, a, us, rfl, .inr (SqT.same ha k1), fun D2 hD2 => ?_⟩
      refine ⟨D2, l.map sOf, rfl, SqL.of (by rw [← eu]; exact upd_same), by rw [List.length_map]; omega, ?_⟩
      rw [← em]
      exact k _ (Same.trans k1 (sm_upd hD2))
end
/-! ### the first part that is wrong -/
abbrev sWrg : Stmt := Pf.top 14
abbrev NWrg : List Str := ["name", "given", "made", "single", "holds", "names", "row"]
theorem scWrg : FnScope NWrg ["name", "given", "made", "single", "holds"] (defScope sWrg) := ⟨rfl, rfl, rfl, by decide +kernel, rfl, by decide +kernel, by decide +kernel⟩
def tupL : DV OB → List (DV OB)
  | .tup l => l
  | _ => []
/-- the five parts of a kind -/
structure Kp (OB : Type) where
  n : DV OB
  g : DV OB
  m : DV OB
  s : DV OB
  h : DV OB
def wrg (k : Kp OB) : Option Str :=
  if nmD k.n = false then some ("name" : Str) else if gvsD k.g = false then some ("given" : Str) else if mdsD (tupL k.g) k.m = false then some ("made" : Str) else
  if (isNo k.s || amD ((tupL k.g).map nm0) k.s) = false then some ("single" : Str) else if hldD ((tupL k.g).map nm0) k.h = false then some ("holds" : Str) else none
def wrV : Option Str → V
  | none => .non
  | some s => .str s
def okK (k : Kp OB) : Bool := shD k.n && (okA k.g && (okMs k.m && okH k.h))
def KpAt (O : Obs OB) (H : Hp) (k : Kp OB) (vs : List V) : Prop := ∃ a b c d e, vs = [a, b, c, d, e] ∧ Dv O H k.n a ∧ Dv O H k.g b ∧ Dv O H k.m c ∧ Dv O H k.s d ∧ Dv O H k.h e
def spWrg (O : Obs OB) : Sp := fun vs H Q _ => ∃ k : Kp OB, KpAt O H k vs ∧ okK k = true ∧ ∀ H', Same H H' → Q (wrV (wrg k)) H'
section
variable {P : Program} {w : World} {K : PySem.W.Frag} {mg : Str → Option Value} {base : Heap}
theorem ok_wrg {f fN fG fM fA fL : Addr} {fd fdN fdG fdM fdA fdL : FuncData} (F : Fun K "_wrong_part" "_wrong_part" sWrg f fd) (T : TxtK mg) (W : Tw K O od)
    (DN : Def P w K mg base 1 "is_name" fN fdN ["thing"] (spB O shD nmD)) (DG : Def P w K mg base 3 "_are_given" fG fdG ["rows"] (spB O okA gvsD)) (DM : Def P w K mg base 3 "_are_made" fM fdM ["rows", "given"] (spMds K O))
    (DA : Def P w K mg base 1 "_is_among" fA fdA ["thing", "names"] (spAmo K O)) (DL : Def P w K mg base 2 "_are_held" fL fdL ["thing", "names"] (spHld K O)) :
    FnOk P w K mg base CX0 4 f fd ["name", "given", "made", "single", "holds"] (spWrg O) := by
  refine F.ok scWrg (fun vs H Q E h => ?_) (fun cdv A outer s H vs Q E hr h => ?_)
  · obtain ⟨k, ⟨a, b, c, d, e, rfl, _⟩, _⟩ := h
    rfl
  · obtain ⟨⟨n, g, m, sg, hh⟩, ⟨va, vb, vc, vd, ve, rfl, hn, hg, hm, hsg, hhh⟩, ok, k⟩ := h
    simp only at hn hg hm hsg hhh
    simp only [okK, Bool.and_eq_true] at ok
    refine ⟨_, (pss_cons (ps_if (pt_not (pt_val (pe_call DN.ok (hr.mono (by omega)) rfl DN.g DN.kp DN.b .nil pass0 (pa_cons (pv 0) pa_nil)))) (pss_one (ps_ret pe_str)) pss_nil)
      (pss_cons (ps_if (pt_not (pt_val (pe_call DG.ok (hr.mono (by omega)) rfl DG.g DG.kp DG.b .nil pass0 (pa_cons (pv 1) pa_nil)))) (pss_one (ps_ret pe_str)) pss_nil)
      (pss_cons (ps_if (pt_not (pt_val (pe_call DM.ok (hr.mono (by omega)) rfl DM.g DM.kp DM.b .nil pass0 (pa_cons (pv 2) (pa_cons (pv 1) pa_nil))))) (pss_one (ps_ret pe_str)) pss_nil)
      (pss_cons (ps_setLc (i := 5) (own := [("row", 6)]) (g := gName 6) (tt := tYes) rfl scWrg.nd rfl rfl (sw_true rfl rfl rfl (by decide +kernel)) (pi_tup (pv 1)) (blkOk_by (N := NWrg) (sc := defScope sWrg) (by decide +kernel)) (fun _ _ _ _ _ => pg_name (i := 6) scWrg.nd rfl (Or.inl rfl)) (fun _ _ _ _ _ => pts_nil) (fun _ _ _ _ _ => pe_ix (show IxR _ (rIxT K) from ix_tup) (pv 6) pe_int (fun _ _ => rfl)))
      (pss_cons (ps_if (PW.pt (pw_and (pt_cmpR op_notN (pv 3) pe_non (nomark _)) (pw_and1 (pt_not (pt_val (pe_call DA.ok (hr.mono (by omega)) rfl DA.g DA.kp DA.b .nil pass0 (pa_cons (pv 3) (pa_cons (pv 5) pa_nil)))))))) (pss_one (ps_ret pe_str)) pss_nil)
      (pss_cons (ps_if (pt_not (pt_val (pe_call DL.ok (hr.mono (by omega)) rfl DL.g DL.kp DL.b .nil pass0 (pa_cons (pv 4) (pa_cons (pv 5) pa_nil))))) (pss_one (ps_ret pe_str)) pss_nil)
      (pss_one (ps_ret pe_non)))))))), ?_⟩
    refine ⟨_, rfl, va, n, rfl, hn, ok.1, fun H1 k1 => ⟨_, rfl, ?_⟩⟩
    cases e1 : nmD n with
    | false =>
      have ew : wrg ⟨n, g, m, sg, hh⟩ = some ("name" : Str) := by simp [wrg, e1]
      exact iteC rfl (show Q (wrV (some ("name" : Str))) H1 from ew ▸ k H1 k1)
    | true =>
    refine iteN rfl ⟨_, rfl, vb, g, rfl, W.dv k1 _ _ hg, ok.2.1, fun H2 k2' => ⟨_, rfl, ?_⟩⟩
    have k2 := Same.trans k1 k2'
    cases e2 : gvsD g with
    | false =>
      have ew : wrg ⟨n, g, m, sg, hh⟩ = some ("given" : Str) := by simp [wrg, e1, e2]
      exact iteC rfl (show Q (wrV (some ("given" : Str))) H2 from ew ▸ k H2 k2)
    | true =>
    obtain ⟨gl, rfl⟩ : ∃ gl, g = .tup gl := by
      cases g with
      | tup l => exact ⟨l, rfl⟩
      | _ => cases e2
    have e2' := e2
    simp only [gvsD, Bool.and_eq_true] at e2'
    have okg := ok.2.1
    simp only [okA, Bool.and_eq_true, decide_eq_true_eq] at okg
    refine iteN rfl ⟨_, rfl, _, rfl, vc, vb, m, gl, rfl, W.dv k2 _ _ hm, W.dv k2 _ _ hg, ok.2.2.1, e2'.1, okg.2, fun H3 k3' => ⟨_, rfl, ?_⟩⟩
    have k3 := Same.trans k2 k3'
    cases e3 : mdsD gl m with
    | false =>
      have ew : wrg ⟨n, .tup gl, m, sg, hh⟩ = some ("made" : Str) := by simp [wrg, e1, e2, tupL, e3]
      exact iteC rfl (show Q (wrV (some ("made" : Str))) H3 from ew ▸ k H3 k3)
    | true =>
    obtain ⟨ag, ug, rfl, hag, hgl⟩ := hg
    have hag : SqT K H ag ug := W.kk ▸ hag
    have elg := hgl.len
    have smg : ug.length < sizeLine := by rw [elg]; exact Nat.lt_of_le_of_lt okg.2 (by decide)
    refine iteN rfl ⟨_, rfl, ag, rfl, ⟨_, SqT.same hag k3⟩, fun D hD => ?_⟩
    refine lc_out (walk_tup (xs := ug)) hD (fun i => .str (nm0 (gl.getD i .non))) smg (fun H5 k5 => SqT.same (SqT.same hag k3) k5) (fun i y H5 H5' N hi k5 hy q => ?_) (fun H4 k4' h4 => ?_)
    · obtain ⟨rfl, ex⟩ := hy
      obtain ⟨x, e4, hx⟩ := rowAt hgl ex
      have eg : gl.getD i .non = x := by rw [List.getD_eq_getElem?_getD, e4]; rfl
      rw [eg] at q
      obtain ⟨b, u1, u2, u3, r, rfl, hb, _⟩ := gv_row W.kk hx (List.all_eq_true.mp e2'.1 x (List.mem_of_getElem? e4))
      exact ⟨rfl, _, rfl, b, _, _, _, rfl, rfl, SqT.same (SqT.same hb k3) k5, atI_nat (j := 0) (xs := [.str (nm0 x), u1, u2, u3]) rfl, q _ (Same.refl _)⟩
    have k4 := Same.trans k3 k4'
    have eA : (List.range ug.length).map (fun i => V.str (nm0 (gl.getD i .non))) = (gl.map nm0).map V.str := by
      rw [elg, List.map_map]
      exact range_map (V.str ∘ nm0) _ gl fun i a h => by rw [List.getD_eq_getElem?_getD, h]; rfl
    rw [eA] at h4
    refine ⟨_, rfl, rfl, _, rfl, ?_⟩
    rw [isN_no W hsg]
    cases e5 : isNo sg with
    | true =>
      refine iteN rfl ?_
      refine ⟨_, rfl, _, rfl, ve, hh, D, _, rfl, W.dv k4 _ _ hhh, ok.2.2.2, SqL.of h4, fun H5 k5' => ⟨_, rfl, ?_⟩⟩
      have k5 := Same.trans k4 k5'
      cases e7 : hldD (gl.map nm0) hh with
      | false =>
        have ew : wrg ⟨n, .tup gl, m, sg, hh⟩ = some ("holds" : Str) := by simp [wrg, e1, e2, tupL, e3, e5, e7]
        exact iteC rfl (show Q (wrV (some ("holds" : Str))) H5 from ew ▸ k H5 k5)
      | true =>
        have ew : wrg ⟨n, .tup gl, m, sg, hh⟩ = none := by simp [wrg, e1, e2, tupL, e3, e5, e7]
        exact iteN rfl (show Q (wrV none) H5 from ew ▸ k H5 k5)
    | false =>
      refine iteC rfl ⟨_, rfl, _, rfl, vd, sg, D, _, rfl, W.dv k4 _ _ hsg, .inl (SqL.of h4), _, rfl, ?_⟩
      cases e6 : amD (gl.map nm0) sg with
      | false =>
        have ew : wrg ⟨n, .tup gl, m, sg, hh⟩ = some ("single" : Str) := by simp [wrg, e1, e2, tupL, e3, e5, e6]
        exact iteC rfl (show Q (wrV (some ("single" : Str))) H4 from ew ▸ k H4 k4)
      | true =>
        refine iteN rfl ?_
        refine ⟨_, rfl, _, rfl, ve, hh, D, _, rfl, W.dv k4 _ _ hhh, ok.2.2.2, SqL.of h4, fun H5 k5' => ⟨_, rfl, ?_⟩⟩
        have k5 := Same.trans k4 k5'
        cases e7 : hldD (gl.map nm0) hh with
        | false =>
          have ew : wrg ⟨n, .tup gl, m, sg, hh⟩ = some ("holds" : Str) := by simp [wrg, e1, e2, tupL, e3, e5, e6, e7]
          exact iteC rfl (show Q (wrV (some ("holds" : Str))) H5 from ew ▸ k H5 k5)
        | true =>
          have ew : wrg ⟨n, .tup gl, m, sg, hh⟩ = none := by simp [wrg, e1, e2, tupL, e3, e5, e6, e7]
          exact iteN rfl (show Q (wrV none) H5 from ew ▸ k H5 k5)
end
end Kd

set_option Elab.async false
set_option linter.all false
set_option maxRecDepth 100000
set_option maxHeartbeats 4000000
/-! An exception of an own class as a tracked thing: its class, its own dict (or none as yet), the tuple of its arguments. -/
namespace Sup
open PySem PySem.Spec PyProof.Rows L2

/-- the very object: an exception of the class at C, own dict d, arguments at t -/
abbrev exnObj (C : Addr) (d : Option Addr) (t : Addr) : Obj := { cls := .ref C, dict := d, data := .fields #[.ref t, .none, .none, .none, .bool false, .none] }
def Exn (e C : Addr) (d : Option Addr) (t : Addr) : HO := .ext fun h => h.get? e = some (exnObj C d t)
theorem exn_is {e C t : Addr} {d : Option Addr} {u : HO} (h : ∀ φ, u ≠ .ext φ) : Exn e C d t ≠ u := fun z => h _ z.symm
theorem exn_ok {P : Program} {w : World} {H : Hp} {h : Heap} {e C t : Addr} {d : Option Addr} (he : h.get? e = some (exnObj C d t)) : ObjOk P w H h e (Exn e C d t) := ⟨he, ⟨_, he⟩, fun h1 h2 z k => k _ z⟩
theorem exn_at {P : Program} {w : World} {H : Hp} {h : Heap} {e C t : Addr} {d : Option Addr} (ok : HOk P w H h) (he : H e = some (Exn e C d t)) : h.get? e = some (exnObj C d t) := (show ObjOk P w H h e (.ext fun h => h.get? e = some (exnObj C d t)) from ok e _ he).1
/-- the class's record, taken apart once -/
theorem oex_cls {K : PySem.W.Frag} {C : Addr} (T : OexC K C) : ∃ cd : ClassData, PySem.W.clsIn K C = some cd ∧ PySem.HandSPX.refsVE cd.mro = true ∧ cd.hasDict = true ∧ ∃ bm, cd.mro = .ref C :: bm := by
  obtain ⟨nm, q, N, bs, bm, sn, sub, ab, col, dd, k0, k1, k2, k3, k5, hC, hbm⟩ := T.cls
  refine ⟨{ name := nm, bases := bs, mro := .ref C :: bm, ns := N, qualname := q, hasDict := true, slotNames := sn, subclasses := sub, abstract := ab, collection := col, hasDel := false }, ?_, hbm, rfl, bm, rfl⟩
  unfold PySem.W.clsIn
  rw [hC]

section
variable {X : Cx} {pins : List (Addr × Obj)} {σ : L2.St} {H : Hp} {s : Shared} {a C dx t : Addr} {f : Str} {y : V} {u : Value} {fs : List (Str × V)} {Q : Unit → Shared → Prop} {E : Value → Shared → Prop} {A : Around}
/-- the first attribute: the exception comes to have a dict -/
theorem est_new (T : OexC X.K C) (I : Inv X pins σ H s) (e : H a = some (Exn a C none t)) (hno : PySem.W.findIn X.K (.ref C) f = some none) (ry : RelV y u)
    (h : ∀ dx s', H dx = none → dx ≠ a → Inv X pins σ (upd (upd H dx (exd dx [(f, y)])) a (Exn a C (some dx) t)) s' → Q () s') : wpAny (model X.prog X.w) A (setAttr (.ref a) f u) Q E s := by
  obtain ⟨cd, hcl, hm, hdc, _⟩ := oex_cls T
  have ho := exn_at I.hok e
  obtain ⟨hp, g, d, tk, os⟩ := s
  refine PySem.W.set_plain I.kIn (ox := exnObj C none t) (od := none) ⟨ho, rfl, rfl, trivial⟩ T.sa (PySem.HandSPX.exc_osa I.kIn ho hcl hm hdc hno fun h' tk' x k big ne hx hn => ?_)
  have hnx : H x = none := I.hok.fresh big
  have old : ∀ {b : Addr} {o : HO}, H b = some o → b ≠ x := fun q => ne_of_none q hnx
  have oth : ∀ {b : Addr} {o : HO}, H b = some o → (∀ φ, o ≠ .ext φ) → b ≠ a := fun {b o} q nx z => by
    rw [z, e] at q
    exact exn_is nx (Option.some.inj q)
  have non : ∀ {b : Addr}, H b = none → b ≠ a := fun {b} n z => by
    rw [z, e] at n
    cases n
  have lt : ∀ {b : Addr} {o : Obj}, hp.get? b = some o → b ≠ x := fun q => Nat.ne_of_lt (Nat.lt_of_lt_of_le (Heap.lt_size q) big)
  refine h x _ hnx ne (I.un (t' := tk') ⟨fun b o q n _ _ => k b o (non n) q, fun b o q n _ _ => ⟨o.slots, k b o (non n) q⟩, fun b o q n _ => ?_, fun b o q _ => ?_, fun b xs q => ?_, fun b o v q => ?_, fun b ps q => ⟨#[], ?_⟩⟩ fun b o q => ?_)
  · rw [upd_ne (non n), upd_ne (lt q)]
    exact n
  · by_cases hb : b = a
    · exact ⟨_, by rw [hb]; exact hx⟩
    · exact ⟨o, k b o hb q⟩
  · rw [upd_ne (oth q fun _ z => nomatch z), upd_ne (old q)]
    exact q
  · rw [upd_ne (oth q fun _ z => nomatch z), upd_ne (old q)]
    exact q
  · rw [upd_ne (oth q fun _ z => nomatch z), upd_ne (old q), q]
    simp
  · by_cases hb : b = a
    · subst hb
      rw [upd_same] at q
      cases q
      exact exn_ok hx
    · rw [upd_ne hb] at q
      by_cases hd : b = x
      · subst hd
        rw [upd_same] at q
        cases q
        exact exd_ok hn (relO_put (fs := []) ry fun _ => True.intro)
      · rw [upd_ne hd] at q
        refine (I.hok b o q).stay (fun c v hc z => k c v ?_ z) (fun c hc => ?_) fun c xs hc => ?_
        · rcases hc with hc | hc
          · rw [hc]
            exact hb
          · exact oth hc fun _ z => nomatch z
        · rw [upd_ne (oth hc fun _ z => nomatch z), upd_ne (old hc)]
          exact hc
        · rw [upd_ne (oth hc fun _ z => nomatch z), upd_ne (old hc)]
          exact hc
/-- a further one -/
theorem est_old (T : OexC X.K C) (I : Inv X pins σ H s) (e : H a = some (Exn a C (some dx) t)) (ed : H dx = some (exd dx fs)) (hl : fs.length ≤ 900) (hno : PySem.W.findIn X.K (.ref C) f = some none) (ry : RelV y u)
    (h : ∀ s', Inv X pins σ (upd H dx (exd dx ((f, y) :: fs))) s' → Q () s') : wpAny (model X.prog X.w) A (setAttr (.ref a) f u) Q E s := by
  obtain ⟨cd, hcl, hm, hdc, _⟩ := oex_cls T
  have ho := exn_at I.hok e
  obtain ⟨mA, hns, rel⟩ := exd_at I.hok ed
  obtain ⟨hp, g, d, tk, os⟩ := s
  obtain ⟨oD, _, _, hoD, _, _⟩ := hns.count (within_of rel)
  refine PySem.W.set_plain I.kIn (ox := exnObj C (some dx) t) (od := some oD) ⟨ho, rfl, rfl, hoD⟩ T.sa ?_
  refine PySem.OEX.osa_old I.kIn ho hns (within_of rel) (by rw [List.length_map]; omega) hcl hm hdc hno fun h' tk' k hn => ?_
  obtain ⟨o, _, _, e', _⟩ := id hn
  exact h _ (I.write (t' := tk') (x := dx) (e := dx) (o := exd dx ((f, y) :: fs)) (by rw [ed]; exact True.intro) (.inl rfl) k ⟨o, e'⟩ (exd_ok hn (relO_put ry rel)))
end
/-- self.f = e, self an exception -/
def tEst (K : PySem.W.Frag) (f : Str) (to te : TE) : TS := fun D σ H => te σ H fun y H1 => to σ H1 fun x H2 => ∃ a C t : Addr, x = .ref a ∧ OexC K C ∧ PySem.W.findIn K (.ref C) f = some none ∧
  ((H2 a = some (Exn a C none t) ∧ ∀ dx, H2 dx = none → dx ≠ a → D.nx σ (upd (upd H2 dx (exd dx [(f, y)])) a (Exn a C (some dx) t))) ∨
    ∃ (dx : Addr) (fs : List (Str × V)), H2 a = some (Exn a C (some dx) t) ∧ H2 dx = some (exd dx fs) ∧ fs.length ≤ 900 ∧ D.nx σ (upd H2 dx (exd dx ((f, y) :: fs))))
section
variable {X : Cx} {o e : Expr} {es : List Expr} {to te : TE} {ta : TA} {f : Str} {p p' pos : Pos}
theorem ps_est (ho : PE X o to) (he : PE X e te) (hs : swapsWith e (some (.Attribute o f p')) pos.line X.env = pure false := by rfl) : PS X (.Assign [.Attribute o f p'] e pos) (tEst X.K f to te) := by
  refine ⟨fun pins s σ H D I h => plainObj_wpAny_Assign_Attribute (thn (he.run pins s σ H _ I h) fun v s1 ⟨y, H1, I1, r1, q1⟩ => thn (ho.run pins s1 σ H1 _ I1 q1) fun u s2 ⟨x, H2, I2, r2, a, C, t, ex, T, hno, q⟩ => ?_) hs⟩
  subst ex
  obtain rfl : u = Value.ref a := r2
  rcases q with ⟨ea, q⟩ | ⟨dx, fs, ea, ed, hl, q⟩
  · exact est_new T I2 ea hno r1 fun dx s' n ne J => ⟨σ, _, J, q dx n ne⟩
  · exact est_old T I2 ea ed hl hno r1 fun s' J => ⟨σ, _, J, q⟩

/-- C(e, ..) as a value: t the arguments' tuple, a the new exception, then C's own __init__ -/
def tExv (C : Addr) (sp : Sp) (ta : TA) : TE := fun σ H Q => ta σ H fun vs H1 => vs.length ≤ 1000 ∧ ∀ t a, H1 t = none → H1 a = none → a ≠ t →
  sp (.ref a :: vs) (upd (upd H1 t (.tup vs)) a (Exn a C none t)) (fun v H2 => v = .non ∧ Q (.ref a) H2) E0
theorem pe_exv {x : Str} {C fI : Addr} {k : Nat} {sp : Sp} (T : OexC X.K C) (iC : PySem.W.findIn X.K (.ref C) "__init__" = some (some (.ref fI))) (tI : PySem.W.typeIn X.K (.ref fI) = some (.type "function"))
    (F1 : FnR X.prog X.w X.K X.mg X.base CX0 k fI sp) (hr : Room (k + 1) X.A) (hg : Gl X x) (hm : X.mg x = some (.ref C)) (ha : PA X (e :: es) ta)
    (hdb : (x == ("__debug__" : Str)) = false := by decide) (he : starEach (e :: es) X.env = (false, eval e X.env) :: starEach es X.env := by rfl) (hpl : (backTo pos (starEach es X.env)).any (·.1) = false := by rfl) :
    PE X (.Call (.Name x p) (e :: es) [] pos) (tExv C sp ta) := by
  refine ⟨fun pins s σ H Q I h => wpAny_Call_Name_kw (ld_glob I hg hm (PySem.W.callWith_K (h₀ := X.base) I.ok.mod.kin T.kC (thn (ha.run pos pins s σ H _ I h) fun us s1 ⟨vs, H1, I1, r1, hz, q1⟩ => ⟨I1.kIn, ?_⟩) he hpl) hdb)⟩
  show wpAny _ _ (call (.ref C) us) _ _ _
  obtain ⟨nm, q, N, bs, bm, sn, sub, ab, col, dd, k0, k1, k2, k3, k5, hC, hbm⟩ := T.cls
  obtain ⟨hp, g, dr, tk, os⟩ := s1
  have n1 : H1 hp.objs.size = none := I1.hok.fresh (Nat.le_refl _)
  have n2 : H1 (hp.objs.size + 1) = none := I1.hok.fresh (Nat.le_succ _)
  have hus : us.length ≤ sizeLine := by
    rw [← Paired.length r1, sizeLine_eq]
    omega
  have up1 : ∀ b o, hp.get? b = some o → (hp.push (PySem.W.kdv_tup us)).get? b = some o := fun b o e => Heap.get?_push_of_some _ e
  have J1 : Inv X pins σ (upd H1 hp.objs.size (.tup vs)) ⟨hp.push (PySem.W.kdv_tup us), g, dr, tk, os⟩ :=
    I1.laid (t' := tk) up1 (Nat.le_refl _) ⟨by rw [Paired.length r1]; exact hus, us, r1, _, Heap.get?_push_size _ rfl, rfl, _, rfl⟩
  have sz : (hp.push (PySem.W.kdv_tup us)).objs.size = hp.objs.size + 1 := Heap.size_push _ _
  have J2 : Inv X pins σ (upd (upd H1 hp.objs.size (.tup vs)) (hp.objs.size + 1) (Exn (hp.objs.size + 1) C none hp.objs.size)) ⟨(hp.push (PySem.W.kdv_tup us)).push (PySem.HandSPX.excO C hp.objs.size), g, dr, tk, os⟩ :=
    J1.laid (t' := tk) (fun b o e => Heap.get?_push_of_some _ e) (Nat.le_of_eq sz) (exn_ok (by rw [← sz]; exact Heap.get?_push_size _ rfl))
  have hq := q1 hp.objs.size (hp.objs.size + 1) n1 n2 (Nat.succ_ne_self _)
  refine wpAny_call (PySem.HandSPX.call_own F.excBase_ValueError (fun Y => PySem.HandSPX.refsVE_contains Y bm hbm) (I1.kIn _ _ hC) (PySem.W.looks_findIn I1.kIn iC) (fun self => PySem.W.bind_fn I1.kIn self tI) hus
    (codeAny_mono (F1 _ X.stack _ _ (Value.ref (hp.objs.size + 1) :: us) _ _ E0 (hr.make C us []) (J2.env0.make C us []) (.cons (show RelV (V.ref (hp.objs.size + 1)) _ from rfl) r1) hq) fun r s' hq' => ?_))
  cases r with
  | error er => exact False.elim hq'
  | ok fl =>
    cases fl with
    | ret v =>
      obtain ⟨y, H3, J3, ry, ev, q3⟩ := J2.after hq'
      subst ev
      exact ⟨ry, ⟨V.ref (hp.objs.size + 1), H3, J3, rfl, q3⟩⟩
    | next => exact False.elim hq'
    | brk => exact False.elim hq'
    | cont => exact False.elim hq'
end
end Sup

set_option Elab.async false
set_option linter.all false
set_option maxRecDepth 100000
set_option maxHeartbeats 4000000
namespace Sup
open PySem PySem.Spec PyProof.Rows L2 ClX

/-- what the written part says of a class C whose __init__ (at fI) calls its base's (at f0); cc: the cell that holds C; cda: its code -/
structure SupT (prog : Program) (K : PySem.W.Frag) (C fI f0 cc cda : Addr) : Prop where
  oex : OexC K C
  cell : ∃ ccl ccd csl, K.lookup cc = some ⟨ccl, ccd, .cell (some (.ref C)), csl⟩
  code : ∃ cl cd vs sl file tf, K.lookup cda = some ⟨cl, cd, .fields vs, sl⟩ ∧ vs[2]? = some (.str file tf) ∧ ((prog.main.file : Str) == file) = true
  sup : PySem.W.ks_superIn K C C "__init__" = some (some (.ref f0))
  ty : PySem.W.typeIn K (.ref f0) = some (.type "function")
  fn : PySem.W.fnIn K f0 = true
  st : PySem.W.nsIn K cStatics "thirdparty.any" = some none
  top : (prog.main.scope.names.lookup ("super" : Str)).isSome = false

section
variable {X : Cx} {pins : List (Addr × Obj)} {σ : L2.St} {H : Hp} {s : Shared} {a C fI f0 cc cda t0 : Addr} {body : List Stmt} {e : Expr} {es : List Expr} {ta : TA} {p0 p1 apos pos pos2 : Pos} {CX : CXT} {k : Nat} {sp : Sp} {E : XK}
  {fd : FuncData} {ar : Arg} {i : Nat} {oc : Value} {od : Option Addr} {osl : Array (Option Value)} {Q : Hp → Prop} {pl : Sem Bool}

theorem sup_stmt (T : SupT X.prog X.K C fI f0 cc cda) (I : Inv X pins σ H s) (hms : X.mg "super" = none)
    (hks : X.env.kindOf "super" = some .globalImplicit) (hkc : X.env.kindOf "__class__" = some .free) (hcc : X.env.cells.lookup ("__class__" : Str) = some cc) (hfu : X.env.func = some fI) (hco : X.env.code = .ref cda)
    (hfI : X.K.lookup fI = some ⟨oc, od, .func fd, osl⟩) (hpar : (fd.params.posonlyargs ++ fd.params.args).head? = some ar) (hi : X.N[i]? = some ar.arg) (hσ : σ[i]? = some (some (.ref a))) (hka : X.env.kindOf ar.arg = some .local)
    (ea : H a = some (Exn a C none t0)) (F0 : FnR X.prog X.w X.K X.mg X.base CX k f0 sp) (hr : Room k X.A) (hx : Passes CX X E) (ha : PA X (e :: es) ta)
    (h : ta σ H fun vs H1 => sp (.ref a :: vs) H1 (fun v H2 => Q H2) E)
    (he : starEach (e :: es) X.env = (false, eval e X.env) :: starEach es X.env := by rfl) (hpl : (backTo pos (starEach es X.env)).any (·.1) = false := by rfl)
    (hin : interactive X.env = false := by rfl) (hsw : swapsWith (.Call (.Attribute (.Call (.Name "super" p0) [] [] p1) "__init__" apos) (e :: es) [] pos) none pos2.line X.env = pure false := by rfl)
    (hev : eval (.Call (.Attribute (.Call (.Name "super" p0) [] [] p1) "__init__" apos) (e :: es) [] pos) X.env = (do
      let ov ← attributeBase (.Call (.Name "super" p0) [] [] p1) "__init__" X.env (eval (.Call (.Name "super" p0) [] [] p1) X.env)
      standAt apos.atName
      let (f, first) ← holding [ov] (getMethod ov "__init__" pl)
      callWith pos f first (backTo pos (starEach (e :: es) X.env)) []) := by rfl) :
    _root_.PySem.wpAt (model X.prog X.w) X.A (.func body X.env) (exec (.Expr (.Call (.Attribute (.Call (.Name "super" p0) [] [] p1) "__init__" apos) (e :: es) [] pos) pos2) X.env)
      (fun fl s' => fl = .next ∧ ∃ H', Inv X pins σ H' s' ∧ Q H') X.xe s := by
  obtain ⟨cl, cd, vs, sl, file, tf, hcode, hvs, hfile⟩ := T.code
  obtain ⟨ccl, ccd, csl, hcell⟩ := T.cell
  obtain ⟨nm, q, N, bs, bm, sn, sub, ab, col, dd, k0, k1, k2, k3, k5, hC, hbm⟩ := T.oex.cls
  have hcl : PySem.W.clsIn X.K C = some { name := nm, bases := bs, mro := .ref C :: bm, ns := N, qualname := q, hasDict := true, slotNames := sn, subclasses := sub, abstract := ab, collection := col, hasDel := false } := by unfold PySem.W.clsIn; rw [hC] <;> rfl
  have ho := exn_at I.hok ea
  have KX := I.kIn
  have hD1 := KX _ _ hC
  obtain ⟨m, hns, hl⟩ := id I.loc
  obtain ⟨u, ru, lu⟩ := hl i ar.arg (.ref a) hi hσ (.inl hka)
  obtain rfl : u = Value.ref a := ru
  have hv : m ar.arg = some (.ref a) := by
    rcases lu with ⟨_, z⟩ | ⟨z, _⟩
    · exact z
    · rw [hka] at z
      rcases z with z | z <;> cases z
  have hac : a ≠ C := fun z => by
    rw [z] at ho
    rw [hD1] at ho
    have z2 := Option.some.inj ho
    have z3 := congrArg (·.data) z2
    cases z3
  have hsub : PySem.W.mroIn X.K C (.ref C) = some true := by
    unfold PySem.W.mroIn
    rw [hcl, Option.bind_some]
    simp
  obtain ⟨hp, g, d, t, os⟩ := s
  refine PySem.ks_wpAt_Expr_any (PySem.ks_wpAt_MethodCall (pl := pl) (PySem.ks_wpAt_super_base hks hkc (by decide) hfu (KX _ _ hfI) rfl hpar hco (KX _ _ hcode) rfl hvs hfile T.top ?_) hev) hin hsw
  obtain ⟨mb, hmb, hbt⟩ := I.ok.mod.blt
  refine PySem.W.ks_loadName_global I.ok.kind hks (PySem.Calls.loadGlobal_builtin (env := X.env) (mg := X.mg) (mb := mb) (by rw [I.ok.glob]; exact I.ok.mod.glob.keeps I.bk) hms (by rw [I.ok.blt]; exact hmb.keeps I.bk) ((hbt _ (by decide +kernel)).trans (by kernel_rfl)) ⟨rfl, ?_⟩)
  refine wpAny_loadName_free I.ok.kind hkc hcc ⟨_, KX _ _ hcell, rfl⟩ ?_
  refine wpAny_loadName_local I.ok.kind hka hns hv ?_
  refine PySem.ks_wpAny_isType_cls hD1 rfl ⟨rfl, ?_⟩
  refine PySem.ks_wpAny_call_super hD1 rfl ho rfl (fun c z => by cases z) (PySem.W.looks_mroIn KX hsub) (fun h' hso k' => ?_)
  have I1 : Inv X pins σ H ⟨h', g, d, t, os⟩ := I.kept (t' := t) k'
  have hlo : PySem.W.alongIn X.K "__init__" (((Value.ref C :: bm).dropWhile (· != .ref C)).drop 1) = some (some (.ref f0)) := by
    have z := T.sup
    unfold PySem.W.ks_superIn at z
    rw [hcl] at z
    exact z
  obtain ⟨of, hof, hofc⟩ : ∃ of, X.K.lookup f0 = some of ∧ of.cls = .type "function" := by
    have ht' : (X.K.lookup f0).map (·.cls) = some (.type "function") := T.ty
    cases z : X.K.lookup f0 with
    | none => rw [z] at ht'; cases ht'
    | some of => rw [z] at ht'; exact ⟨of, rfl, Option.some.inj ht'⟩
  refine PySem.ks_wpAny_getMethod_super (l₀ := .ref C :: bm) hso (PySem.W.looks_opaque I1.kIn T.st) ((PySem.W.looks_clsIn I1.kIn hcl).andThen .now) rfl I1.kIn hlo (I1.kIn _ _ hof) hofc hac (by decide) ?_
  have I2 : Inv X ((h'.objs.size, PySem.W.methodObj (.ref f0) (.ref a)) :: pins) σ H ⟨h'.push (PySem.W.methodObj (.ref f0) (.ref a)), g, d, t + 1, os⟩ :=
    pin_new I1 (fun _ _ z => Heap.get?_push_of_some _ z) (Nat.le_refl _) (Heap.get?_push_size h' rfl) (fun v z => nomatch z)
  refine callwith_cm I2 (base_none I1 (Nat.le_refl _)) T.fn (thn (ha.run pos _ _ σ H _ I2 h) fun us s3 ⟨vs, H2, I3, rv, q2⟩ => ⟨⟨pin_at I3, I3.kIn⟩, ?_⟩) he hpl
  refine thn (run_cm F0 hr hx I3 rv q2) fun v s4 ⟨y, H4, I4, _, q4⟩ => ⟨rfl, H4, I4, q4⟩
end
end Sup

set_option Elab.async false
set_option linter.all false
set_option maxRecDepth 100000
set_option maxHeartbeats 4000000
namespace Sup
open PySem PySem.Spec PyProof.Rows L2 ClX NdefX

section
variable {P : Program} {w : World} {K : PySem.W.Frag} {mg : Str → Option Value} {base : Heap} {N ps : List Str} {F : NF} {k : Nat} {sp spB : Sp} {C fI f0 cc : Addr} {oc doc pm ctv : Value} {od : Option Addr} {osl : Array (Option Value)}
  {e : Expr} {es : List Expr} {p0 p1 apos pos pos2 : Pos} {rest : List Stmt} {a0 : Arg} {pl : Addr → Sem Bool}

/-- THE RULE: an __init__ whose first statement is super().__init__(e, ..) -/
theorem sup_fn (S : NScope N ps ["__class__"] F.scope) (T : SupT P K C fI f0 cc F.c) (hms : mg "super" = none) (lk : K.lookup fI = some ⟨oc, od, .func (F.fd doc pm ctv), osl⟩) (hcd : PySem.W.codeIn K (.ref F.c) F.qual = true) (hcl : F.cl = [(("__class__" : Str), cc)])
    (hb : ∀ us : List Value, us.length = ps.length → bindArgs (F.fd doc pm ctv) ⟨us, []⟩ = pure (ps.zip us))
    (hbody : F.body = .Expr (.Call (.Attribute (.Call (.Name "super" p0) [] [] p1) "__init__" apos) (e :: es) [] pos) pos2 :: rest)
    (hks : F.scope.names.lookup ("super" : Str) = some .globalImplicit) (hpar : (F.params.posonlyargs ++ F.params.args).head? = some a0) (hN0 : N[0]? = some a0.arg) (hka : F.scope.names.lookup a0.arg = some .local)
    (F0 : FnR P w K mg base CX0 k f0 spB)
    (hsp : ∀ vs H Q E, sp vs H Q E → vs.length = ps.length ∧ ∃ a ws t, vs = .ref a :: ws ∧ H a = some (Exn a C none t))
    (hrd : ∀ (A : Around) (outer : List Env) (s : Shared) (H : Hp) (vs : List V) (Q : VK) (E : XK), Room k (A.deeper (envF F fI s.heap.objs.size)) → sp vs H Q E →
      ∃ ta t, PA (ncx CX0 P w K mg base N F fI A outer s H E) (e :: es) ta ∧ PSs (ncx CX0 P w K mg base N F fI A outer s H E) rest t ∧
        ∀ a ws, vs = .ref a :: ws → ta (startF N vs [none]) H fun us H1 => spB (.ref a :: us) H1 (fun _ H2 => t { nx := fun _ H' => Q .non H', rt := Q } (startF N vs [none]) H2) E0)
    (he : ∀ L, starEach (e :: es) (envF F fI L) = (false, eval e (envF F fI L)) :: starEach es (envF F fI L)) (hpl : ∀ L, (backTo pos (starEach es (envF F fI L))).any (·.1) = false)
    (hin : ∀ L, interactive (envF F fI L) = false) (hsw : ∀ L, swapsWith (.Call (.Attribute (.Call (.Name "super" p0) [] [] p1) "__init__" apos) (e :: es) [] pos) none pos2.line (envF F fI L) = pure false)
    (hev : ∀ L, eval (.Call (.Attribute (.Call (.Name "super" p0) [] [] p1) "__init__" apos) (e :: es) [] pos) (envF F fI L) = (do
      let ov ← attributeBase (.Call (.Name "super" p0) [] [] p1) "__init__" (envF F fI L) (eval (.Call (.Name "super" p0) [] [] p1) (envF F fI L))
      standAt apos.atName
      let (f, first) ← holding [ov] (getMethod ov "__init__" (pl L))
      callWith pos f first (backTo pos (starEach (e :: es) (envF F fI L))) [])) :
    FnR P w K mg base CX0 (k + 1) fI sp := by
  intro A outer s H us vs Q E hr e0 r hs
  obtain ⟨hl, a, ws, t0, rfl, ea⟩ := hsp _ _ _ _ hs
  have KX : K.In s.heap := e0.mod.kin.keeps fun b o e => (e0.bs b o e).1
  have lim : s.heap.NoLimit := e0.mod.nolimit.keeps fun b o e => (e0.bs b o e).1
  obtain ⟨ccl, ccd, csl, hcell⟩ := T.cell
  have hccb := e0.bs cc _ (e0.mod.kin _ _ hcell)
  have hclk : ∀ y c, F.cl.lookup y = some c → y = "__class__" ∧ c = cc := fun y c z => by
    rw [hcl] at z
    by_cases hy : y = "__class__"
    · subst hy
      simp [List.lookup] at z
      exact ⟨rfl, z.symm⟩
    · have q : (y == ("__class__" : Str)) = false := by simpa using hy
      simp [List.lookup, q] at z
  have hcc : F.cl.lookup ("__class__" : Str) = some cc := by rw [hcl]; simp [List.lookup]
  have CA : CellsAt F.cl ["__class__"] [none] s.heap H := {
    len := rfl
    all := fun y c z => by
      obtain ⟨_, rfl⟩ := hclk y c z
      exact ⟨hccb.2, _, _, hccb.1, rfl⟩
    inj := fun x y c z1 z2 => by rw [(hclk x c z1).1, (hclk y c z2).1]
    has := fun i y z => by
      match i, z with
      | 0, z =>
        have z' : ("__class__" : Str) = y := Option.some.inj z
        subst z'
        exact ⟨cc, hcc, fun v z2 => by simp at z2⟩
      | i + 1, z => simp at z }
  have hfr : ∀ y ∈ F.scope.names, y.2 ≠ .cell := S.nocell
  refine PySem.ks_codeAny_call_defAt (fd := F.fd doc pm ctv) (body := F.body) (binds := ps.zip us) hr.depth (KX _ _ lk) rfl lim (PySem.W.codeRec_of KX hcd) rfl (.of_eq (hb us (by rw [← r.length]; exact hl))) hfr (fun y hy => S.par _ (List.of_mem_zip (a := y.1) (b := y.2) hy).1) (fun h₁ hns kp => ?_) S.co S.gen S.kind
  have I : Inv (ncx CX0 P w K mg base N F fI A outer s H E) [] (startF N (.ref a :: ws) [none]) H { s with heap := h₁, toks := s.toks + (ps.zip us).length } := inv_startN S hr.hd e0 hl r CA hns kp
  obtain ⟨ta, t, hPA, hPS, hq⟩ := hrd A outer s H _ Q E (hr.deeper _) hs
  have hq := hq a ws rfl
  show _root_.PySem.wpAt (model P w) (ncx CX0 P w K mg base N F fI A outer s H E).A (.func F.body (ncx CX0 P w K mg base N F fI A outer s H E).env) (execs F.body (ncx CX0 P w K mg base N F fI A outer s H E).env) _ (ncx CX0 P w K mg base N F fI A outer s H E).xe _
  have st1 := sup_stmt (X := ncx CX0 P w K mg base N F fI A outer s H E) (body := F.body) (i := 0) (pos2 := pos2) (p0 := p0) (p1 := p1) (apos := apos) (pl := pl s.heap.objs.size) (Q := fun H2 => t { nx := fun _ H' => Q .non H', rt := Q } (startF N (.ref a :: ws) [none]) H2)
    T I hms hks (S.frk _ (by simp)) hcc rfl rfl lk hpar hN0 rfl hka ea F0 (hr.deeper _) pass0 hPA hq (he _) (hpl _) (hin _) (hsw _) (hev _)
  have fin : ∀ {σ' : L2.St} {H' : Hp} {v : V} {u : Value} {s' : Shared}, Inv (ncx CX0 P w K mg base N F fI A outer s H E) [] σ' H' s' → L2.RelV v u → Q v H' → CE outer P w H s Q u s' :=
    fun {σ' H' v u s'} J rv q => ⟨v, H', J.os, J.bare, J.base, J.hok, rv, q⟩
  generalize hB : F.body = B at st1 ⊢
  rw [hbody] at hB
  subst hB
  refine PySem.ks_wpAt_execs_cons (PySem.ks_wpAt_mono st1 (fun fl s' hfl => ?_) fun _ _ z => z)
  obtain ⟨rfl, H', I', q'⟩ := hfl
  refine PySem.wpAt_of_wpAny (wpAny_mono (hPS.run [] s' _ H' _ I' q') (fun fl s'' hs => ?_) fun _ _ z => z)
  cases fl with
  | ret u =>
    obtain ⟨v, σ', H', J, rv', q⟩ := hs
    exact fin J rv' q
  | next =>
    obtain ⟨σ', H', J, q⟩ := hs
    exact fin (v := V.non) (u := Value.none) J rfl q
  | brk =>
    obtain ⟨_, _, _, q⟩ := hs
    exact False.elim q
  | cont =>
    obtain ⟨_, _, _, q⟩ := hs
    exact False.elim q
end
end Sup

set_option Elab.async false
set_option linter.all false
set_option maxRecDepth 100000
set_option maxHeartbeats 4000000
namespace Sup
open PySem PySem.Spec PyProof.Rows L2 ClX NdefX

/-! ### the texts -/
abbrev arg_ (n : Str) (p : Pos) : Arg := { arg := n, annotation := none, pos := p }
def bA (p1 p2 : Pos) : Arguments := { posonlyargs := [], args := [arg_ "self" p1], vararg := some (arg_ "told" p2), kwonlyargs := [], kw_defaults := [], kwarg := none, defaults := [] }
def bB (q1 q2 q3 q4 : Pos) : List Stmt := [.Assign [.Attribute (.Name "self" q1) "told" q2] (.Name "told" q3) q4]
def bS : Scope := { kind := .function, names := [("self", .local), ("told", .local)], isGenerator := false, isCoroutine := false, more := [] }
def iA (fs : List (Str × Pos)) (p1 : Pos) : Arguments := { posonlyargs := [], args := arg_ "self" p1 :: fs.map (fun x => arg_ x.1 x.2), vararg := none, kwonlyargs := [], kw_defaults := [], kwarg := none, defaults := [] }
abbrev supCall (es : List Expr) (q1 q2 q3 q4 q5 : Pos) : Stmt := .Expr (.Call (.Attribute (.Call (.Name "super" q1) [] [] q2) "__init__" q3) es [] q4) q5
abbrev setF (f : Str) (r1 r2 r3 r4 : Pos) : Stmt := .Assign [.Attribute (.Name "self" r1) f r2] (.Name f r3) r4
def iS (fs : List Str) : Scope := { kind := .function, names := (("self" : Str), NameKind.local) :: (fs.map fun f => (f, NameKind.local)) ++ [(("__class__" : Str), NameKind.free), (("super" : Str), NameKind.globalImplicit)], isGenerator := false, isCoroutine := false, more := [] }

/-- what an exception has behind its making -/
def ErrAt (H : Hp) (a C : Addr) (fs : List (Str × V)) (vs : List V) : Prop := ∃ d t p : Addr, H a = some (Exn a C (some d) t) ∧ H d = some (exd d (fs ++ [(("told" : Str), V.ref p)])) ∧ H t = some (.tup vs)
/-- the base's __init__, its rest a tuple at p -/
def spBase (K : PySem.W.Frag) : Sp := fun vs H Q _ => ∃ (a C t : Addr) (rest : List V), vs = .ref a :: rest ∧ rest.length ≤ 1000 ∧ OexC K C ∧ PySem.W.findIn K (.ref C) "told" = some none ∧ H a = some (Exn a C none t) ∧
  ∀ (p d : Addr) (H' : Hp), H p = none → H d = none → d ≠ p → p ≠ a → d ≠ a → H' a = some (Exn a C (some d) t) → H' d = some (exd d [("told", .ref p)]) → (∀ b o, H b = some o → b ≠ a → H' b = some o) → Q .non H'
/-- an __init__ over it: attributes named fs -/
def spErr (C : Addr) (n : Nat) (fs : List Str) : Sp := fun vs H Q _ => ∃ (a t : Addr) (ws : List V), vs = .ref a :: ws ∧ ws.length = n ∧ H a = some (Exn a C none t) ∧
  ∀ (p d : Addr) (H' : Hp), H p = none → H d = none → d ≠ a → H' a = some (Exn a C (some d) t) → H' d = some (exd d ((fs.zip ws).reverse ++ [(("told" : Str), V.ref p)])) → (∀ b o, H b = some o → b ≠ a → H' b = some o) → Q .non H'

section
variable {P : Program} {w : World} {K : PySem.W.Frag} {mg : Str → Option Value} {base : Heap}
theorem base_bind {kV doc pm cdv ct : Value} {an : Option Addr} {p1 p2 q1 q2 q3 q4 : Pos} {qual : Str} : ∀ us rest : List Value, us.length = [("self" : Str)].length →
    bindArgs (PySem.W.fnOf "__init__" qual (bA p1 p2) (bB q1 q2 q3 q4) bS .none kV doc pm an cdv ct) ⟨us ++ rest, []⟩ = (newTuple rest >>= fun t => pure ([("self" : Str)].zip us ++ [(("told" : Str), t)]))
  | [a], [], _ => rfl
  | [a], r :: rs, _ => rfl
theorem base_fn {f0 : Addr} {oc kV doc pm cdv ct : Value} {an od : Option Addr} {osl : Array (Option Value)} {p1 p2 q1 q2 q3 q4 : Pos} {qual : Str}
    (lk : K.lookup f0 = some ⟨oc, od, .func (PySem.W.fnOf "__init__" qual (bA p1 p2) (bB q1 q2 q3 q4) bS .none kV doc pm an cdv ct), osl⟩) (hcd : PySem.W.codeIn K cdv qual = true) :
    FnR P w K mg base CX0 2 f0 (spBase K) := by
  have S : FnScope ["self", "told"] ([("self" : Str)] ++ [("told" : Str)]) bS := ⟨rfl, rfl, rfl, by decide +kernel, rfl, by decide +kernel, by decide +kernel⟩
  refine (StX.fn_star (k := 1) (N := ["self", "told"]) (ps := ["self"]) (pv := "told") (sp := fun vs H Q _ => ∃ (a C t p : Addr), vs = [.ref a, .ref p] ∧ OexC K C ∧ PySem.W.findIn K (.ref C) "told" = some none ∧ H a = some (Exn a C none t) ∧
      ∀ (d : Addr) (H' : Hp), H d = none → d ≠ a → H' = upd (upd H d (exd d [("told", .ref p)])) a (Exn a C (some d) t) → Q .non H')
    lk hcd S StX.cxUp_none base_bind fun A outer s H vs Q E hr hs => ?_).imp fun vs H Q E h => ?_
  · obtain ⟨a, C, t, p, rfl, T, hno, ha, k⟩ := hs
    refine ⟨_, pss_one (ps_est (pv 0) (pv 1)), ?_⟩
    exact ⟨_, rfl, _, rfl, a, C, t, rfl, T, hno, .inl ⟨ha, fun dx hd ne => k dx _ hd ne rfl⟩⟩
  · obtain ⟨a, C, t, rest, rfl, hl, T, hno, ha, k⟩ := h
    refine ⟨[.ref a], rest, rfl, rfl, Nat.le_trans hl (by rw [sizeLine_eq]; omega), fun p hp => ?_⟩
    have ap : a ≠ p := ne_of_none ha hp
    refine ⟨a, C, t, p, rfl, T, hno, (upd_ne ap).trans ha, fun d H' hd ne e => ?_⟩
    subst e
    have dp : d ≠ p := fun z => by
      rw [z, upd_same] at hd
      cases hd
    rw [upd_ne dp] at hd
    refine k p d _ hp hd dp (Ne.symm ap) ne upd_same ((upd_ne ne).trans upd_same) fun b o hb nb => ?_
    rw [upd_ne nb, upd_ne (ne_of_none hb hd), upd_ne (ne_of_none hb hp)]
    exact hb

/-- what is known of such a class's __init__ where it stands -/
structure InitT (P : Program) (K : PySem.W.Frag) (C fI f0 cc cda : Addr) (qual : Str) (fs : List (Str × Pos)) (p1 : Pos) (body : List Stmt) : Prop where
  sup : SupT P K C fI f0 cc cda
  no : ∀ f ∈ ("told" : Str) :: fs.map (·.1), PySem.W.findIn K (.ref C) f = some none
  lk : ∃ oc od doc pm ctv osl, K.lookup fI = some ⟨oc, od, .func ((NF.mk "__init__" qual (iA fs p1) body (iS (fs.map (·.1))) [(("__class__" : Str), cc)] cda).fd doc pm ctv), osl⟩
  cd : PySem.W.codeIn K (.ref cda) qual = true
abbrev nfI (qual : Str) (fs : List (Str × Pos)) (p1 : Pos) (body : List Stmt) (cc cda : Addr) : NF := ⟨"__init__", qual, iA fs p1, body, iS (fs.map (·.1)), [(("__class__" : Str), cc)], cda⟩

theorem err_len {C : Addr} {n : Nat} {fs : List Str} {vs : List V} {H : Hp} {Q : VK} {E : XK} (h : spErr C n fs vs H Q E) : vs.length = n + 1 ∧ ∃ a ws t, vs = .ref a :: ws ∧ H a = some (Exn a C none t) := by
  obtain ⟨a, t, ws, rfl, hl, ha, _⟩ := h
  exact ⟨by rw [List.length_cons, hl], a, ws, t, rfl, ha⟩

/-- the scope of such an __init__ with one parameter f -/
theorem sc_one {f : Str} (hs : f ≠ "self") (hc : f ≠ "__class__") (hu : f ≠ "super") : NScope ["self", f, "__class__"] ["self", f] ["__class__"] (iS [f]) ∧ List.lookup f (iS [f]).names = some NameKind.local ∧ List.lookup ("super" : Str) (iS [f]).names = some NameKind.globalImplicit := by
  have n0 : (("self" : Str) == f) = false := by simpa using Ne.symm hs
  have n1 : (("__class__" : Str) == f) = false := by simpa using Ne.symm hc
  have n2 : (("super" : Str) == f) = false := by simpa using Ne.symm hu
  have n3 : (f == ("self" : Str)) = false := by simpa using hs
  have sc : List.lookup f (iS [f]).names = some NameKind.local := by
    show List.lookup f ((("self" : Str), NameKind.local) :: (f, NameKind.local) :: [(("__class__" : Str), NameKind.free), (("super" : Str), NameKind.globalImplicit)]) = _
    simp [List.lookup, n3]
  have S : NScope ["self", f, "__class__"] ["self", f] ["__class__"] (iS [f]) := {
    kind := rfl
    co := rfl
    gen := rfl
    nd := by simp [Ne.symm hs, hc]; decide +kernel
    pre := rfl
    par := fun x hx => by
      rcases List.mem_cons.mp hx with rfl | hx
      · rfl
      · rw [List.mem_singleton.mp hx]
        exact sc
    nocell := fun y hy => by
      have hy : y ∈ [(("self" : Str), NameKind.local), (f, NameKind.local), (("__class__" : Str), NameKind.free), (("super" : Str), NameKind.globalImplicit)] := hy
      simp only [List.mem_cons, List.not_mem_nil, or_false] at hy
      rcases hy with rfl | rfl | rfl | rfl <;> intro z <;> cases z
    free := fun y hy z => by
      have hy : y ∈ [(("self" : Str), NameKind.local), (f, NameKind.local), (("__class__" : Str), NameKind.free), (("super" : Str), NameKind.globalImplicit)] := hy
      simp only [List.mem_cons, List.not_mem_nil, or_false] at hy
      rcases hy with rfl | rfl | rfl | rfl <;> first | exact List.mem_singleton.mpr rfl | cases z
    frk := fun x hx => by
      rw [List.mem_singleton.mp hx]
      show List.lookup ("__class__" : Str) ((("self" : Str), NameKind.local) :: (f, NameKind.local) :: [(("__class__" : Str), NameKind.free), (("super" : Str), NameKind.globalImplicit)]) = _
      have e : (("__class__" : Str) == ("self" : Str)) = false := by decide +kernel
      simp [List.lookup, n1, e] }
  have hks : List.lookup ("super" : Str) (iS [f]).names = some NameKind.globalImplicit := by
    show List.lookup ("super" : Str) ((("self" : Str), NameKind.local) :: (f, NameKind.local) :: [(("__class__" : Str), NameKind.free), (("super" : Str), NameKind.globalImplicit)]) = _
    have e : (("super" : Str) == ("self" : Str)) = false := by decide +kernel
    have e2 : (("super" : Str) == ("__class__" : Str)) = false := by decide +kernel
    simp [List.lookup, n2, e, e2]
  exact ⟨S, sc, hks⟩
/-- one attribute -/
theorem init_one {C fI f0 cc cda : Addr} {qual f : Str} {pf p1 q1 q2 q3 q4 q5 r0 r1 r2 r3 r4 : Pos} (hs : f ≠ "self") (hc : f ≠ "__class__") (hu : f ≠ "super") (ht : f ≠ "told") (hd : (f == ("__debug__" : Str)) = false) (hcd : (f == ("__classdict__" : Str)) = false)
    (T : InitT P K C fI f0 cc cda qual [(f, pf)] p1 [supCall [.Name f r0] q1 q2 q3 q4 q5, setF f r1 r2 r3 r4]) (hms : mg "super" = none) (F0 : FnR P w K mg base CX0 2 f0 (spBase K)) {pl : Addr → Sem Bool}
    (hb : ∀ (doc pm ctv u v : Value), bindArgs ((nfI qual [(f, pf)] p1 [supCall [.Name f r0] q1 q2 q3 q4 q5, setF f r1 r2 r3 r4] cc cda).fd doc pm ctv) ⟨[u, v], []⟩ = pure [(("self" : Str), u), (f, v)])
    (hev : ∀ L, eval (.Call (.Attribute (.Call (.Name "super" q1) [] [] q2) "__init__" q3) [.Name f r0] [] q4) (envF (nfI qual [(f, pf)] p1 [supCall [.Name f r0] q1 q2 q3 q4 q5, setF f r1 r2 r3 r4] cc cda) fI L) = (do
      let ov ← attributeBase (.Call (.Name "super" q1) [] [] q2) "__init__" (envF (nfI qual [(f, pf)] p1 [supCall [.Name f r0] q1 q2 q3 q4 q5, setF f r1 r2 r3 r4] cc cda) fI L) (eval (.Call (.Name "super" q1) [] [] q2) (envF (nfI qual [(f, pf)] p1 [supCall [.Name f r0] q1 q2 q3 q4 q5, setF f r1 r2 r3 r4] cc cda) fI L))
      standAt q3.atName
      let (g, first) ← holding [ov] (getMethod ov "__init__" (pl L))
      callWith q4 g first (backTo q4 (starEach [.Name f r0] (envF (nfI qual [(f, pf)] p1 [supCall [.Name f r0] q1 q2 q3 q4 q5, setF f r1 r2 r3 r4] cc cda) fI L))) [])) :
    FnR P w K mg base CX0 3 fI (spErr C 1 [f]) := by
  obtain ⟨oc, od, doc, pm, ctv, osl, lk⟩ := T.lk
  obtain ⟨S, sc, hks⟩ := sc_one hs hc hu
  refine sup_fn (F := nfI qual [(f, pf)] p1 [supCall [.Name f r0] q1 q2 q3 q4 q5, setF f r1 r2 r3 r4] cc cda) (N := ["self", f, "__class__"]) (ps := ["self", f]) (k := 2) (a0 := arg_ "self" p1) S T.sup hms lk T.cd rfl
    (fun us hl => match us, hl with | [_, _], _ => hb _ _ _ _ _) rfl hks rfl rfl rfl F0 (fun vs H Q E h => err_len h) (fun A outer s H vs Q E hr h => ?_) (fun _ => rfl) (fun _ => rfl) (fun _ => rfl) (fun _ => rfl) hev
  refine ⟨_, _, pa_cons (pe_var (i := 1) rfl (.inl sc) hd hcd) pa_nil, pss_one (ps_est (pe_var (i := 0) rfl (.inl rfl)) (pe_var (i := 1) rfl (.inl sc) hd hcd)), fun a ws e => ?_⟩
  obtain ⟨a', t, ws', rfl, hl, ha, k⟩ := h
  cases e
  match ws, hl with
  | [v], _ =>
    refine ⟨_, rfl, a, C, t, [v], rfl, (by show 1 ≤ 1000; decide), T.sup.oex, T.no _ List.mem_cons_self, ha, fun p d H' hp hd' dp pa da ea ed kp => ?_⟩
    refine ⟨_, rfl, _, rfl, a, C, t, rfl, T.sup.oex, T.no _ (by simp), .inr ⟨d, _, ea, ed, (by show 1 ≤ 900; decide), ?_⟩⟩
    have had : a ≠ d := Ne.symm da
    exact k p d _ hp hd' da ((upd_ne had).trans ea) upd_same fun b o hb nb => (upd_ne (ne_of_none hb hd')).trans (kp b o hb nb)
/-- one parameter, no attribute -/
theorem init_nil {C fI f0 cc cda : Addr} {qual f : Str} {pf p1 q1 q2 q3 q4 q5 r0 : Pos} (hs : f ≠ "self") (hc : f ≠ "__class__") (hu : f ≠ "super") (ht : f ≠ "told") (hd : (f == ("__debug__" : Str)) = false) (hcd : (f == ("__classdict__" : Str)) = false)
    (T : InitT P K C fI f0 cc cda qual [(f, pf)] p1 [supCall [.Name f r0] q1 q2 q3 q4 q5]) (hms : mg "super" = none) (F0 : FnR P w K mg base CX0 2 f0 (spBase K)) {pl : Addr → Sem Bool}
    (hb : ∀ (doc pm ctv u v : Value), bindArgs ((nfI qual [(f, pf)] p1 [supCall [.Name f r0] q1 q2 q3 q4 q5] cc cda).fd doc pm ctv) ⟨[u, v], []⟩ = pure [(("self" : Str), u), (f, v)])
    (hev : ∀ L, eval (.Call (.Attribute (.Call (.Name "super" q1) [] [] q2) "__init__" q3) [.Name f r0] [] q4) (envF (nfI qual [(f, pf)] p1 [supCall [.Name f r0] q1 q2 q3 q4 q5] cc cda) fI L) = (do
      let ov ← attributeBase (.Call (.Name "super" q1) [] [] q2) "__init__" (envF (nfI qual [(f, pf)] p1 [supCall [.Name f r0] q1 q2 q3 q4 q5] cc cda) fI L) (eval (.Call (.Name "super" q1) [] [] q2) (envF (nfI qual [(f, pf)] p1 [supCall [.Name f r0] q1 q2 q3 q4 q5] cc cda) fI L))
      standAt q3.atName
      let (g, first) ← holding [ov] (getMethod ov "__init__" (pl L))
      callWith q4 g first (backTo q4 (starEach [.Name f r0] (envF (nfI qual [(f, pf)] p1 [supCall [.Name f r0] q1 q2 q3 q4 q5] cc cda) fI L))) [])) :
    FnR P w K mg base CX0 3 fI (spErr C 1 []) := by
  obtain ⟨oc, od, doc, pm, ctv, osl, lk⟩ := T.lk
  obtain ⟨S, sc, hks⟩ := sc_one hs hc hu
  refine sup_fn (F := nfI qual [(f, pf)] p1 [supCall [.Name f r0] q1 q2 q3 q4 q5] cc cda) (N := ["self", f, "__class__"]) (ps := ["self", f]) (k := 2) (a0 := arg_ "self" p1) S T.sup hms lk T.cd rfl
    (fun us hl => match us, hl with | [_, _], _ => hb _ _ _ _ _) rfl hks rfl rfl rfl F0 (fun vs H Q E h => err_len h) (fun A outer s H vs Q E hr h => ?_) (fun _ => rfl) (fun _ => rfl) (fun _ => rfl) (fun _ => rfl) hev
  refine ⟨_, _, pa_cons (pe_var (i := 1) rfl (.inl sc) hd hcd) pa_nil, pss_nil, fun a ws e => ?_⟩
  obtain ⟨a', t, ws', rfl, hl, ha, k⟩ := h
  cases e
  match ws, hl with
  | [v], _ =>
    refine ⟨_, rfl, a, C, t, [v], rfl, (by show 1 ≤ 1000; decide), T.sup.oex, T.no _ List.mem_cons_self, ha, fun p d H' hp hd' dp pa da ea ed kp => ?_⟩
    exact k p d _ hp hd' da ea ed kp
/-- two attributes -/
theorem init_two {C fI f0 cc cda : Addr} {qual f g : Str} {pf pg p1 q1 q2 q3 q4 q5 r0 r1 r2 r3 r4 r5 t1 t2 t3 t4 : Pos} (S : NScope ["self", f, g, "__class__"] ["self", f, g] ["__class__"] (iS [f, g])) (sc : List.lookup f (iS [f, g]).names = some NameKind.local) (sg : List.lookup g (iS [f, g]).names = some NameKind.local)
    (hks : List.lookup ("super" : Str) (iS [f, g]).names = some NameKind.globalImplicit) (hd : (f == ("__debug__" : Str)) = false) (hcd : (f == ("__classdict__" : Str)) = false) (gd : (g == ("__debug__" : Str)) = false) (gcd : (g == ("__classdict__" : Str)) = false)
    (T : InitT P K C fI f0 cc cda qual [(f, pf), (g, pg)] p1 [supCall [.Name f r0, .Name g r5] q1 q2 q3 q4 q5, setF f r1 r2 r3 r4, setF g t1 t2 t3 t4]) (hms : mg "super" = none) (F0 : FnR P w K mg base CX0 2 f0 (spBase K)) {pl : Addr → Sem Bool}
    (hb : ∀ (doc pm ctv u v z : Value), bindArgs ((nfI qual [(f, pf), (g, pg)] p1 [supCall [.Name f r0, .Name g r5] q1 q2 q3 q4 q5, setF f r1 r2 r3 r4, setF g t1 t2 t3 t4] cc cda).fd doc pm ctv) ⟨[u, v, z], []⟩ = pure [(("self" : Str), u), (f, v), (g, z)])
    (hev : ∀ L, eval (.Call (.Attribute (.Call (.Name "super" q1) [] [] q2) "__init__" q3) [.Name f r0, .Name g r5] [] q4) (envF (nfI qual [(f, pf), (g, pg)] p1 [supCall [.Name f r0, .Name g r5] q1 q2 q3 q4 q5, setF f r1 r2 r3 r4, setF g t1 t2 t3 t4] cc cda) fI L) = (do
      let ov ← attributeBase (.Call (.Name "super" q1) [] [] q2) "__init__" (envF (nfI qual [(f, pf), (g, pg)] p1 [supCall [.Name f r0, .Name g r5] q1 q2 q3 q4 q5, setF f r1 r2 r3 r4, setF g t1 t2 t3 t4] cc cda) fI L) (eval (.Call (.Name "super" q1) [] [] q2) (envF (nfI qual [(f, pf), (g, pg)] p1 [supCall [.Name f r0, .Name g r5] q1 q2 q3 q4 q5, setF f r1 r2 r3 r4, setF g t1 t2 t3 t4] cc cda) fI L))
      standAt q3.atName
      let (gg, first) ← holding [ov] (getMethod ov "__init__" (pl L))
      callWith q4 gg first (backTo q4 (starEach [.Name f r0, .Name g r5] (envF (nfI qual [(f, pf), (g, pg)] p1 [supCall [.Name f r0, .Name g r5] q1 q2 q3 q4 q5, setF f r1 r2 r3 r4, setF g t1 t2 t3 t4] cc cda) fI L))) [])) :
    FnR P w K mg base CX0 3 fI (spErr C 2 [f, g]) := by
  obtain ⟨oc, od, doc, pm, ctv, osl, lk⟩ := T.lk
  refine sup_fn (F := (nfI qual [(f, pf), (g, pg)] p1 [supCall [.Name f r0, .Name g r5] q1 q2 q3 q4 q5, setF f r1 r2 r3 r4, setF g t1 t2 t3 t4] cc cda)) (N := ["self", f, g, "__class__"]) (ps := ["self", f, g]) (k := 2) (a0 := arg_ "self" p1) S T.sup hms lk T.cd rfl
    (fun us hl => match us, hl with | [_, _, _], _ => hb _ _ _ _ _ _) rfl hks rfl rfl rfl F0 (fun vs H Q E h => err_len h) (fun A outer s H vs Q E hr h => ?_) (fun _ => rfl) (fun _ => rfl) (fun _ => rfl) (fun _ => rfl) hev
  refine ⟨_, _, pa_cons (pe_var (i := 1) rfl (.inl sc) hd hcd) (pa_cons (pe_var (i := 2) rfl (.inl sg) gd gcd) pa_nil), pss_cons (ps_est (pe_var (i := 0) rfl (.inl rfl)) (pe_var (i := 1) rfl (.inl sc) hd hcd)) (pss_one (ps_est (pe_var (i := 0) rfl (.inl rfl)) (pe_var (i := 2) rfl (.inl sg) gd gcd))), fun a ws e => ?_⟩
  obtain ⟨a', t, ws', rfl, hl, ha, k⟩ := h
  cases e
  match ws, hl with
  | [v, u], _ =>
    refine ⟨_, rfl, _, rfl, a, C, t, [v, u], rfl, (by show 2 ≤ 1000; decide), T.sup.oex, T.no _ List.mem_cons_self, ha, fun p d H' hp hd' dp pa da ea ed kp => ?_⟩
    have had : a ≠ d := Ne.symm da
    refine ⟨_, rfl, _, rfl, a, C, t, rfl, T.sup.oex, T.no _ (by simp), .inr ⟨d, _, ea, ed, (by show 1 ≤ 900; decide), ?_⟩⟩
    refine ⟨_, rfl, _, rfl, a, C, t, rfl, T.sup.oex, T.no _ (by simp), .inr ⟨d, _, (upd_ne had).trans ea, upd_same, (by show 2 ≤ 900; decide), ?_⟩⟩
    rw [upd_upd]
    exact k p d _ hp hd' da ((upd_ne had).trans ea) upd_same fun b o hb nb => (upd_ne (ne_of_none hb hd')).trans (kp b o hb nb)
end
end Sup

set_option Elab.async false
set_option linter.all false
set_option maxRecDepth 100000
set_option maxHeartbeats 4000000
namespace Sup
open PySem PySem.Spec PyProof.Rows L2 ClX NdefX

/-- what a class of errors must have for its instances to be read, asked and shown -/
structure ErrC (K : PySem.W.Frag) (C : Addr) : Prop where
  ga : PySem.W.findIn K (.ref C) "__getattribute__" = some (some (.builtin "BaseException.__getattribute__"))
  gg : PySem.W.findIn K (.ref C) "__getattr__" = some none
  exC : PySem.W.subIn K (.ref C) (.type "BaseException") = some true
  hdC : PySem.W.hasDictIn K C = true
  cl : PySem.W.findIn K (.ref C) "__class__" = some (some (.builtin "object.__class__"))
  ob : PySem.W.mroIn K C (.type "object") = some true
  st : PySem.W.findIn K (.ref C) "__str__" = some (some (.builtin "BaseException.__str__"))
structure GetC (K : PySem.W.Frag) : Prop where
  hn : PySem.W.specialIn K (.builtin "object.__class__") "__get__" = some (some (.builtin "getset_descriptor.__get__"))
  ht : PySem.W.takesIn K (.builtin "object.__class__") = some true
theorem ErrC.is {K : PySem.W.Frag} {C : Addr} (T : ErrC K C) : (PySem.W.clsIn K C).isSome = true := by
  have h := T.hdC
  unfold PySem.W.hasDictIn at h
  cases e : PySem.W.clsIn K C with
  | none => rw [e] at h; cases h
  | some cd => rfl

theorem ErrAt.same {H H' : Hp} {a C : Addr} {fs : List (Str × V)} {vs : List V} (h : ErrAt H a C fs vs) (k : ∀ b o, H b = some o → H' b = some o) : ErrAt H' a C fs vs := by
  obtain ⟨d, t, p, h1, h2, h3⟩ := h
  exact ⟨d, t, p, k _ _ h1, k _ _ h2, k _ _ h3⟩
section
variable {X : Cx} {pins : List (Addr × Obj)} {σ : L2.St} {H : Hp} {s : Shared} {a C : Addr} {fs : List (Str × V)} {vs : List V}
theorem err_inst (I : Inv X pins σ H s) (h : ErrAt H a C fs vs) : ∃ (d t p : Addr) (od : Obj) (mA : Str → Option Value), PySem.W.InstAt s.heap a (exnObj C (some d) t) C (some od) ∧ (∀ n, PySem.W.lookIn n od = some (mA n)) ∧ (∀ f, RelO ((fs ++ [(("told" : Str), V.ref p)]).lookup f) (mA f)) ∧ H t = some (.tup vs) := by
  obtain ⟨d, t, p, h1, h2, h3⟩ := h
  have ho := exn_at I.hok h1
  obtain ⟨mA, hns, rel⟩ := exd_at I.hok h2
  obtain ⟨od, hod, hl⟩ := lookIn_ns hns
  exact ⟨d, t, p, od, mA, ⟨ho, rfl, rfl, hod⟩, hl, rel, h3⟩
end

/-! ### making -/
def tErr (C : Addr) (n : Nat) (fs : List Str) (ta : TA) : TE := fun σ H Q => ta σ H fun vs H1 => vs.length = n ∧ ∀ (a : Addr) (H' : Hp), H1 a = none → (∀ b o, H1 b = some o → H' b = some o) → ErrAt H' a C (fs.zip vs).reverse vs → Q (.ref a) H'
section
variable {X : Cx} {e : Expr} {es : List Expr} {ta : TA} {te : TE} {p pos : Pos} {x f : Str}
theorem pe_err {C fI : Addr} {k n : Nat} {fs : List Str} (T : OexC X.K C) (iC : PySem.W.findIn X.K (.ref C) "__init__" = some (some (.ref fI))) (tI : PySem.W.typeIn X.K (.ref fI) = some (.type "function"))
    (F1 : FnR X.prog X.w X.K X.mg X.base CX0 k fI (spErr C n fs)) (hn : n ≤ 1000) (hr : Room (k + 1) X.A) (hg : Gl X x) (hm : X.mg x = some (.ref C)) (ha : PA X (e :: es) ta)
    (hdb : (x == ("__debug__" : Str)) = false := by decide) (he : starEach (e :: es) X.env = (false, eval e X.env) :: starEach es X.env := by rfl) (hpl : (backTo pos (starEach es X.env)).any (·.1) = false := by rfl) :
    PE X (.Call (.Name x p) (e :: es) [] pos) (tErr C n fs ta) := by
  have ha' : PA X (e :: es) (fun σ H Q => ∃ R : List V → Hp → Prop, ta σ H R ∧ ∀ vs H1, R vs H1 → Q vs H1) :=
    ⟨fun pos pins s σ H Q I ⟨R, h, k⟩ => thn (ha.run pos pins s σ H R I h) fun us s1 ⟨vs, H1, I1, r1, q⟩ => ⟨vs, H1, I1, r1, k vs H1 q⟩⟩
  refine ⟨fun pins s σ H Q I h => (pe_exv T iC tI F1 hr hg hm ha' hdb he hpl).run pins s σ H Q I ⟨_, h, fun vs H1 q => ⟨by rw [q.1]; exact hn, fun t a ht na ne => ?_⟩⟩⟩
  refine ⟨a, t, vs, rfl, q.1, upd_same, fun p d H' hp hd da ea ed k => ⟨rfl, q.2 a H' na (fun b o hb => ?_) ⟨d, t, p, ea, ed, ?_⟩⟩⟩
  · refine k b o ?_ (ne_of_none hb na)
    rw [upd_ne (ne_of_none hb na), upd_ne (ne_of_none hb ht)]
    exact hb
  · refine k t _ ?_ (Ne.symm ne)
    rw [upd_ne (Ne.symm ne), upd_same]

/-! ### reading an attribute -/
def tXat (K : PySem.W.Frag) (f : Str) (te : TE) : TE := fun σ H Q => te σ H fun x H1 => ∃ (a C : Addr) (fs : List (Str × V)) (vs : List V) (v : V), x = .ref a ∧ ErrC K C ∧ PySem.W.findIn K (.ref C) f = some none ∧ ErrAt H1 a C fs vs ∧ fs.lookup f = some v ∧ Q v H1
theorem lookup_left {f : Str} {v : V} {gs : List (Str × V)} : ∀ {fs : List (Str × V)}, fs.lookup f = some v → (fs ++ gs).lookup f = some v
  | [], h => by cases h
  | (g, y) :: fs, h => by
    rw [List.cons_append, lookup_put]
    rw [lookup_put] at h
    by_cases e : f = g
    · rw [if_pos e] at h ⊢
      exact h
    · rw [if_neg e] at h ⊢
      exact lookup_left h
theorem pe_xat (he : PE X e te) (hb : attributeBase e f X.env (eval e X.env) = eval e X.env := by rfl) : PE X (.Attribute e f pos) (tXat X.K f te) := by
  refine ⟨fun pins s σ H Q I h => attr_of hb (thn (he.run pins s σ H _ I h) fun u s1 hh => ?_)⟩
  obtain ⟨x, H1, I1, rx, a, C, fs, vs, v, ex, T, hno, er, l, q⟩ := hh
  subst ex
  obtain rfl : u = Value.ref a := rx
  obtain ⟨d, t, p, od, mA, J, hl, rel, _⟩ := err_inst I1 er
  obtain ⟨u, hu, ru⟩ := RelO.some_of (v := v) (o := mA f) (by rw [← lookup_left (gs := [(("told" : Str), V.ref p)]) l]; exact rel f)
  exact HandSPX.exc_get I1.kIn J T.ga T.gg T.exC (PySem.W.findObj_own T.hdC hno rfl (by rw [hl, hu])) (handed_of ru) ⟨v, H1, I1.tok _, ru, q⟩

/-! ### isinstance, str -/
def rIsx (K : PySem.W.Frag) : List V → Hp → VK → Prop := fun xs H Q => ∃ (a C : Addr) (c : V) (u : Value) (fs : List (Str × V)) (vs : List V) (b : Bool), xs = [.ref a, c] ∧ ClsV c u ∧ ErrC K C ∧ GetC K ∧ ErrAt H a C fs vs ∧ PySem.W.kitOne K (.ref C) u = some b ∧ Q (.bl b) H
theorem call_isx : CallR X (.builtin "isinstance") (rIsx X.K) := by
  intro pins s σ H xs us Q I r h
  obtain ⟨a, C, c, u, fs, vs, b, rfl, hc, T, G, er, e, q⟩ := h
  obtain ⟨u1, u2, rfl, r1, r2⟩ := vals2 r
  obtain rfl := hc.eq r2
  obtain rfl : u1 = Value.ref a := r1
  obtain ⟨d, t, p, od, mA, J, _⟩ := err_inst I er
  exact PySem.W.kia_one (PySem.W.kitx_exc T.is T.ga T.gg T.exC T.cl G.hn G.ht T.ob) I.kIn J e (fun z => nomatch z) fun tk => ⟨.bl b, H, I.tok tk, rfl, q⟩
def rStrx (K : PySem.W.Frag) : List V → Hp → VK → Prop := fun xs H Q => ∃ (a C : Addr) (fs : List (Str × V)) (y : Str), xs = [.ref a] ∧ ErrC K C ∧ ErrAt H a C fs [.str y] ∧ Q (.str y) H
theorem call_strx (hu : X.A.units + 2 < cLine) : CallR X (.type "str") (rStrx X.K) := by
  intro pins s σ H xs us Q I r h
  obtain ⟨a, C, fs, y, rfl, T, er, q⟩ := h
  obtain ⟨u, rfl, r1⟩ := vals1 r
  obtain rfl : u = Value.ref a := r1
  obtain ⟨d, t, p, od, mA, J, _, _, ht⟩ := err_inst I er
  obtain ⟨_, its, rv, tp⟩ := (show ObjOk X.prog X.w H s.heap t (.tup [.str y]) from I.hok t _ ht)
  obtain ⟨z, rfl, tk, rfl⟩ := vals1 rv
  refine PySem.P.str_of_C_one hu ⟨I.kIn, _, _, J.at_, rfl, rfl, rfl⟩ (m := y) (tk := tk) ?_ T.st T.exC ⟨.str y, H, I, ⟨_, rfl⟩, q⟩
  obtain ⟨o, h1, h2, n, h3⟩ := tp
  exact ⟨o, n, h1, h2, h3⟩
end
end Sup

set_option Elab.async false
set_option linter.all false
set_option maxRecDepth 100000
set_option maxHeartbeats 4000000
/-! own errors whose __init__ says super().__init__(..) over a base with a star: raised -/
namespace Sup
open PySem PySem.Spec PyProof.Rows L2 ClX NdefX
/-- X(e, ..): what it leaves, with the places told -/
def tErr2 (C : Addr) (n : Nat) (fs : List Str) (ta : TA) : TE := fun σ H Q => ta σ H fun vs H1 => vs.length = n ∧ ∀ (a d t p : Addr) (H' : Hp), H1 a = none → H1 d = none → (∀ b o, H1 b = some o → H' b = some o) → H' a = some (Exn a C (some d) t) → H' d = some (exd d ((fs.zip vs).reverse ++ [(("told" : Str), V.ref p)])) → Q (.ref a) H'
section
variable {X : Cx} {e : Expr} {es : List Expr} {ta : TA} {te : TE} {p pos : Pos} {x f : Str}
theorem pe_err2 {C fI : Addr} {k n : Nat} {fs : List Str} (T : OexC X.K C) (iC : PySem.W.findIn X.K (.ref C) "__init__" = some (some (.ref fI))) (tI : PySem.W.typeIn X.K (.ref fI) = some (.type "function"))
    (F1 : FnR X.prog X.w X.K X.mg X.base CX0 k fI (spErr C n fs)) (hn : n ≤ 1000) (hr : Room (k + 1) X.A) (hg : Gl X x) (hm : X.mg x = some (.ref C)) (ha : PA X (e :: es) ta)
    (hdb : (x == ("__debug__" : Str)) = false := by decide) (he : starEach (e :: es) X.env = (false, eval e X.env) :: starEach es X.env := by rfl) (hpl : (backTo pos (starEach es X.env)).any (·.1) = false := by rfl) :
    PE X (.Call (.Name x p) (e :: es) [] pos) (tErr2 C n fs ta) := by
  have ha' : PA X (e :: es) (fun σ H Q => ∃ R : List V → Hp → Prop, ta σ H R ∧ ∀ vs H1, R vs H1 → Q vs H1) :=
    ⟨fun pos pins s σ H Q I ⟨R, h, k⟩ => thn (ha.run pos pins s σ H R I h) fun us s1 ⟨vs, H1, I1, r1, q⟩ => ⟨vs, H1, I1, r1, k vs H1 q⟩⟩
  refine ⟨fun pins s σ H Q I h => (pe_exv T iC tI F1 hr hg hm ha' hdb he hpl).run pins s σ H Q I ⟨_, h, fun vs H1 q => ⟨by rw [q.1]; exact hn, fun t a ht na ne => ?_⟩⟩⟩
  refine ⟨a, t, vs, rfl, q.1, upd_same, fun p d H' hp hd da ea ed k => ⟨rfl, q.2 a d t p H' na ?_ (fun b o hb => ?_) ea ed⟩⟩
  · cases e : H1 d with
    | none => rfl
    | some o =>
      rw [upd_ne (ne_of_none e na), upd_ne (ne_of_none e ht), e] at hd
      cases hd
  · refine k b o ?_ (ne_of_none hb na)
    rw [upd_ne (ne_of_none hb na), upd_ne (ne_of_none hb ht)]
    exact hb
/-- such an expression makes an exception -/
theorem pmk_of {e : Expr} {te : TE} (hx : X.ex = []) (he : PE X e te) :
    PMk X e (fun σ H Q => te σ H fun y H1 => ∃ (a C d t : Addr) (fs : List (Str × V)), y = .ref a ∧ H1 a = some (Exn a C (some d) t) ∧ H1 d = some (exd d fs) ∧ Fr0 X.H_0 a ∧ Raises X (.ref C) ∧ Q (.ref C) (some d) (upd (delH H1 a) d (.xd fs))) := by
  intro pins s σ H Q I h
  refine wpAny_mono (he.run pins s σ H _ I h) (fun u s1 hu => ?_) fun _ _ x => x
  obtain ⟨v, H1, I1, r1, a, C, d, t, fs, rfl, ha, hd, h0, hr, q⟩ := hu
  cases r1
  have ho := exn_at I1.hok ha
  obtain ⟨G, gs, ga, J⟩ := I1.untrack (φ := _) ha h0 hx
  have da : d ≠ a := fun z => by
    obtain ⟨mA, ⟨o, es, ep, e1, e2, _⟩, _⟩ := exd_at I1.hok hd
    rw [z, ho] at e1
    have z2 := Option.some.inj e1
    subst z2
    cases e2
  have hd2 : delH H1 a d = some (exd d fs) := (delH_ne da).trans hd
  obtain ⟨mA, hns, rel⟩ := exd_at J.hok hd2
  have hG : ∃ u, G.get? d = some u := let ⟨o, es, ep, e1, _⟩ := hns; ⟨o, e1⟩
  have J2 : Inv X pins σ (upd (delH H1 a) d (.xd fs)) { s1 with heap := G } :=
    J.write (t' := s1.toks) (h' := G) (x := d) (e := d) (o := .xd fs) (by rw [hd2]; exact True.intro) (.inl rfl) (fun b u _ q => q) hG ⟨mA, hns, rel⟩
  exact ⟨a, exnObj C (some d) t, _, { s1 with heap := G }, _, .ref C, some d, rfl, J2, gs, ga, ho, ⟨rfl, rfl⟩, rfl, rfl, by rw [upd_ne (Ne.symm da), delH_same], rfl, I1.bare, hr, q⟩
/-- raise X(e, ..): the reading -/
def tRz (X : Cx) (C : Addr) (n : Nat) (fs : List Str) (ta : TA) (W : WX) : TS := fun _ σ H => ta σ H fun vs H1 => vs.length = n ∧ (∀ b o, X.H_0 b = some o → H1 b ≠ none) ∧
  ∀ (d p : Addr) (H' : Hp), H1 d = none → (∀ b o, H1 b = some o → H' b = some o) → H' d = some (.xd ((fs.zip vs).reverse ++ [(("told" : Str), V.ref p)])) → W (.ref C) (some d) σ H'
theorem ps_rz {W : WX} {C fI : Addr} {k n : Nat} {fs : List Str} {pos' : Pos} (hc : X.calm = true) (hx : X.ex = []) (tk : Takes X W) (T : OexC X.K C) (hR : Raises X (.ref C)) (iC : PySem.W.findIn X.K (.ref C) "__init__" = some (some (.ref fI))) (tI : PySem.W.typeIn X.K (.ref fI) = some (.type "function"))
    (F1 : FnR X.prog X.w X.K X.mg X.base CX0 k fI (spErr C n fs)) (hn : n ≤ 1000) (hr : Room (k + 1) X.A) (hg : Gl X x) (hm : X.mg x = some (.ref C)) (ha : PA X (e :: es) ta)
    (hdb : (x == ("__debug__" : Str)) = false := by decide) (he : starEach (e :: es) X.env = (false, eval e X.env) :: starEach es X.env := by rfl) (hpl : (backTo pos (starEach es X.env)).any (·.1) = false := by rfl) :
    PS X (.Raise (some (.Call (.Name x p) (e :: es) [] pos)) none pos') (tRz X C n fs ta W) := by
  have ha' : PA X (e :: es) (fun σ H Q => ∃ R : List V → Hp → Prop, ta σ H R ∧ ∀ vs H1, R vs H1 → Q vs H1) :=
    ⟨fun pos pins s σ H Q I ⟨R, h, k⟩ => thn (ha.run pos pins s σ H R I h) fun us s1 ⟨vs, H1, I1, r1, q⟩ => ⟨vs, H1, I1, r1, k vs H1 q⟩⟩
  refine ⟨fun pins s σ H D I h => (ps_raise hc tk (pmk_of hx (pe_err2 T iC tI F1 hn hr hg hm ha' hdb he hpl))).run pins s σ H D I ⟨_, h, fun vs H1 q => ⟨q.1, fun a d t p H' na nd k0 ea ed => ?_⟩⟩⟩
  refine ⟨a, C, d, t, _, rfl, ea, ed, fun o ho => absurd na (q.2.1 a o ho), hR, q.2.2 d p _ nd (fun b o hb => ?_) upd_same⟩
  rw [upd_ne (ne_of_none hb nd), delH_ne (ne_of_none hb na)]
  exact k0 b o hb
end
end Sup

set_option Elab.async false
set_option linter.all false
set_option maxRecDepth 100000
set_option maxHeartbeats 4000000
/-! Kind: its making -/
namespace Kd
open PySem PySem.Spec PyProof.Rows L2 Dq Vl ClX
variable {OB : Type} {O : Obs OB} {od : OB → Bool}
abbrev sKI : Stmt := inClass (Pf.top 13) 0
abbrev sKPa : Stmt := inClass (Pf.top 13) 1
abbrev NKI : List Str := ["self", "name", "given", "made", "single", "holds", "part"]
abbrev PKI : List Str := ["self", "name", "given", "made", "single", "holds"]
theorem scKI : FnScope NKI PKI (defScope sKI) := ⟨rfl, rfl, rfl, by decide +kernel, rfl, by decide +kernel, by decide +kernel⟩
theorem scKPa : FnScope ["self"] ["self"] (defScope sKPa) := ⟨rfl, rfl, rfl, by decide +kernel, rfl, by decide +kernel, by decide +kernel⟩
theorem lk_hd {f : Str} {v : V} {r : List (Str × V)} : ((f, v) :: r).lookup f = some v := by simp [List.lookup]
theorem lk_tl {f g : Str} {v : V} {r : List (Str × V)} (h : (f == g) = false) : ((g, v) :: r).lookup f = r.lookup f := by simp [List.lookup, h]
theorem putF_nil {f : Str} {v : V} : putF f v [] = [(f, v)] := rfl
theorem putF_tl {f g : Str} {v x : V} {r : List (Str × V)} (h : ¬ g = f) : putF f v ((g, x) :: r) = (g, x) :: putF f v r := if_neg h
abbrev kfl (a b c d e : V) : List (Str × V) := [("name", a), ("given", b), ("made", c), ("single", d), ("holds", e)]
theorem kf2 (a b : V) : putF "given" b (putF "name" a []) = ([("name", a), ("given", b)] : List (Str × V)) := by rw [putF_nil, putF_tl (by decide +kernel), putF_nil]
theorem kf3 (a b c : V) : putF "made" c [("name", a), ("given", b)] = ([("name", a), ("given", b), ("made", c)] : List (Str × V)) := by rw [putF_tl (by decide +kernel), putF_tl (by decide +kernel), putF_nil]
theorem kf4 (a b c d : V) : putF "single" d [("name", a), ("given", b), ("made", c)] = ([("name", a), ("given", b), ("made", c), ("single", d)] : List (Str × V)) := by rw [putF_tl (by decide +kernel), putF_tl (by decide +kernel), putF_tl (by decide +kernel), putF_nil]
theorem kf5 (a b c d e : V) : putF "holds" e [("name", a), ("given", b), ("made", c), ("single", d)] = kfl a b c d e := by rw [putF_tl (by decide +kernel), putF_tl (by decide +kernel), putF_tl (by decide +kernel), putF_tl (by decide +kernel), putF_nil]
/-- a Kind stands at a -/
def KdAt (O : Obs OB) (C : Addr) (H : Hp) (a : Addr) (k : Kp OB) : Prop := ∃ dx v1 v2 v3 v4 v5, H a = some (.ins C dx (kfl v1 v2 v3 v4 v5)) ∧ KpAt O H k [v1, v2, v3, v4, v5]
structure TxtKi (K : PySem.W.Frag) (mg : Str → Option Value) (C : Addr) : Prop where
  cl : Cls K C
  n1 : NoAttr K C "name"
  n2 : NoAttr K C "given"
  n3 : NoAttr K C "made"
  n4 : NoAttr K C "single"
  n5 : NoAttr K C "holds"
  mg : mg "Kind" = some (.ref C)
/-- an own error with one field, as raise wants it -/
structure TxtX (P : Program) (w : World) (K : PySem.W.Frag) (mg : Str → Option Value) (base : Heap) (x : Str) (C : Addr) (f : Str) (fI : Addr) : Prop where
  oex : OexC K C
  iC : PySem.W.findIn K (.ref C) "__init__" = some (some (.ref fI))
  tI : PySem.W.typeIn K (.ref fI) = some (.type "function")
  F : FnR P w K mg base CX0 3 fI (Sup.spErr C 1 [f])
  mg : mg x = some (.ref C)
def spKI (O : Obs OB) (C CN : Addr) : Sp := fun vs H Q E => ∃ (a dx : Addr) (v1 v2 v3 v4 v5 : V) (k : Kp OB), vs = [.ref a, v1, v2, v3, v4, v5] ∧ H a = some (.ins C dx []) ∧ KpAt O H k [v1, v2, v3, v4, v5] ∧ okK k = true ∧
  (∀ z, wrg k = some z → ∀ (d p : Addr) (H' : Hp), Same H H' → H' d = some (.xd [("part", .str z), ("told", .ref p)]) → E (.ref CN) (some d) H') ∧
  (wrg k = none → ∀ H', (∀ b x, H b = some x → b ≠ a → H' b = some x) → H' a = some (.ins C dx (kfl v1 v2 v3 v4 v5)) → Q .non H')
/-- a kind's parts, as one value -/
def kpD (k : Kp OB) : DV OB := .tup [k.n, k.g, k.m, k.s, k.h]
def spKPa (O : Obs OB) (C : Addr) : Sp := fun vs H Q _ => ∃ (a : Addr) (k : Kp OB), vs = [.ref a] ∧ KdAt O C H a k ∧ ∀ v H', Same H H' → Dv O H' (kpD k) v → Q v H'
section
variable {P : Program} {w : World} {K : PySem.W.Frag} {mg : Str → Option Value} {base : Heap} {C CN fX : Addr}
theorem ok_ki {f fW : Addr} {fd fdW : FuncData} (F : Fun K "__init__" "Kind.__init__" sKI f fd) (T : TxtKi K mg C) (TX : TxtX P w K mg base "NoKind" CN "part" fX)
    (DW : Def P w K mg base 4 "_wrong_part" fW fdW ["name", "given", "made", "single", "holds"] (spWrg O)) : FnOk P w K mg base (L2.CX P w) 5 f fd PKI (spKI O C CN) := by
  refine F.okX scKI (fun vs H Q E h => ?_) (fun cdv A outer s H vs Q E hr h => ?_)
  · obtain ⟨a, dx, v1, v2, v3, v4, v5, k, rfl, _⟩ := h
    rfl
  · obtain ⟨a, dx, v1, v2, v3, v4, v5, k, rfl, ha, hk, ok, kx, kq⟩ := h
    refine ⟨_, pss_cons (ps_set (i := 6) scKI.nd rfl (Or.inl rfl) (pe_call DW.ok (hr.mono (by omega)) rfl DW.g DW.kp DW.b .nil pass0 (pa_cons (pv 1) (pa_cons (pv 2) (pa_cons (pv 3) (pa_cons (pv 4) (pa_cons (pv 5) pa_nil)))))))
      (pss_cons (ps_if (pt_cmpR op_notN (pv 6) pe_non (nomark _)) (pss_one (Sup.ps_rz rfl rfl (takes_of rfl rfl rfl rfl) TX.oex (raises_own TX.oex.exC TX.oex.tyC) TX.iC TX.tI TX.F (by decide) (hr.mono (by decide)) rfl TX.mg (pa_cons (pv 6) pa_nil))) pss_nil)
      (pss_cons (ps_fld (pv 0) (pv 1) rfl) (pss_cons (ps_fld (pv 0) (pv 2) rfl) (pss_cons (ps_fld (pv 0) (pv 3) rfl) (pss_cons (ps_fld (pv 0) (pv 4) rfl) (pss_one (ps_fld (pv 0) (pv 5) rfl))))))), ?_⟩
    refine ⟨_, rfl, _, rfl, _, rfl, _, rfl, _, rfl, k, hk, ok, fun H1 k1 => ⟨_, rfl, rfl, _, rfl, ?_⟩⟩
    cases ew : wrg k with
    | some z =>
      refine iteC rfl ⟨_, rfl, rfl, (fun b o e => by rw [k1 _ _ e]; simp), fun d p H' n1 k2 e => ?_⟩
      exact kx z ew d p H' (Same.trans k1 k2) e
    | none =>
      refine iteN rfl ?_
      have a1 := k1 _ _ ha
      refine ⟨_, rfl, _, rfl, a, C, dx, _, rfl, a1, T.cl, T.n1, by show 0 < 1000; decide, _, rfl, _, rfl, a, C, dx, _, rfl, upd_same, T.cl, T.n2, by show 1 < 1000; decide, ?_⟩
      rw [kf2]
      refine ⟨_, rfl, _, rfl, a, C, dx, _, rfl, upd_same, T.cl, T.n3, by show 2 < 1000; decide, ?_⟩
      rw [kf3]
      refine ⟨_, rfl, _, rfl, a, C, dx, _, rfl, upd_same, T.cl, T.n4, by show 3 < 1000; decide, ?_⟩
      rw [kf4]
      refine ⟨_, rfl, _, rfl, a, C, dx, _, rfl, upd_same, T.cl, T.n5, by show 4 < 1000; decide, ?_⟩
      rw [kf5]
      refine kq ew _ (fun b x e nb => ?_) upd_same
      rw [upd_ne nb, upd_ne nb, upd_ne nb, upd_ne nb, upd_ne nb]
      exact k1 _ _ e
theorem ok_kpa {f : Addr} {fd : FuncData} (F : Fun K "parts" "Kind.parts" sKPa f fd) (T : TxtKi K mg C) (W : Tw K O od) : FnOk P w K mg base CX0 1 f fd ["self"] (spKPa O C) := by
  refine F.ok scKPa (fun vs H Q E h => ?_) (fun cdv A outer s H vs Q E hr h => ?_)
  · obtain ⟨a, k, rfl, _⟩ := h
    rfl
  · obtain ⟨a, k, rfl, ⟨dx, v1, v2, v3, v4, v5, ha, w1, w2, w3, w4, w5, e, h1, h2, h3, h4, h5⟩, kq⟩ := h
    simp only [List.cons.injEq, and_true] at e
    obtain ⟨rfl, rfl, rfl, rfl, rfl⟩ := e
    refine ⟨_, pss_one (ps_ret (pe_tup (pa_cons (pe_fld (pv 0) rfl) (pa_cons (pe_fld (pv 0) rfl) (pa_cons (pe_fld (pv 0) rfl) (pa_cons (pe_fld (pv 0) rfl) (pa_cons (pe_fld (pv 0) rfl) pa_nil))))))), ?_⟩
    refine ⟨_, rfl, a, C, dx, _, _, rfl, ha, T.cl, T.n1, lk_hd, _, rfl, a, C, dx, _, _, rfl, ha, T.cl, T.n2, (lk_tl (by decide +kernel)).trans lk_hd,
      _, rfl, a, C, dx, _, _, rfl, ha, T.cl, T.n3, (lk_tl (by decide +kernel)).trans ((lk_tl (by decide +kernel)).trans lk_hd), _, rfl, a, C, dx, _, _, rfl, ha, T.cl, T.n4, (lk_tl (by decide +kernel)).trans ((lk_tl (by decide +kernel)).trans ((lk_tl (by decide +kernel)).trans lk_hd)),
      _, rfl, a, C, dx, _, _, rfl, ha, T.cl, T.n5, (lk_tl (by decide +kernel)).trans ((lk_tl (by decide +kernel)).trans ((lk_tl (by decide +kernel)).trans ((lk_tl (by decide +kernel)).trans lk_hd))), by show 5 ≤ sizeLine; decide, fun t ht => ?_⟩
    have kk := sm_upd (o := .tup [v1, v2, v3, v4, v5]) ht
    exact kq _ _ kk ⟨t, _, rfl, SqT.of upd_same, _, _, rfl, W.dv kk _ _ h1, _, _, rfl, W.dv kk _ _ h2, _, _, rfl, W.dv kk _ _ h3, _, _, rfl, W.dv kk _ _ h4, _, _, rfl, W.dv kk _ _ h5, rfl⟩
end
end Kd

set_option Elab.async false
set_option linter.all false
set_option maxRecDepth 100000
set_option maxHeartbeats 4000000
/-! == and != of an instance whose class has an own __eq__ (and the __ne__ of object) -/
namespace Ow
open PySem PySem.Spec PyProof.Rows L2
/-- the class at C has the own __eq__ at f, the __ne__ of object -/
structure OwnQ (K : PySem.W.Frag) (C f : Addr) : Prop where
  at_ : PySem.W.findIn K (.ref C) "__eq__" = some (some (.ref f))
  fn : PySem.W.isFn K (.ref f) = true
  ne : PySem.W.findIn K (.ref C) "__ne__" = some (some (.builtin "object.__ne__"))
  ob : PySem.W.mroIn K C (.type "object") = some true
def kinds : List String := ["NoneType", "bool", "int", "str", "tuple", "list", "dict"]
theorem kinds_mro : ∀ T ∈ kinds, ((fastBuiltinMro T).map fun l => l.all fun v => match v with | .ref _ => false | _ => true) = some true := by decide +kernel
theorem first_kind {K : PySem.W.Frag} {C : Addr} {T : String} (h : T ∈ kinds) : PySem.W.notFirst K C (.type T) = true := by
  have e := kinds_mro T h
  refine Bool.or_eq_true_iff.mpr (.inr (beq_iff_eq.mpr ?_))
  show (fastBuiltinMro T).map (·.contains (.ref C)) = some false
  cases q : fastBuiltinMro T with
  | none => rw [q] at e; cases e
  | some l =>
    rw [q] at e
    have e : (l.all fun v => match v with | .ref _ => false | _ => true) = true := by simpa using e
    have : l.contains (.ref C) = false := by
      rw [Bool.eq_false_iff]
      intro z
      have z := List.contains_iff_mem.mp z
      have := List.all_eq_true.mp e _ z
      simp at this
    rw [Option.map_some, this]
section
variable {prog : Program} {w : World} {A : Around} {E : Value → Shared → Prop} {s : Shared} {K : PySem.W.Frag} {x C f L : Addr} {ox : Obj} {od : Option Obj} {m : Str → Option Value} {h₀ : Heap} {b tb : Value}
theorem ifBound_ne {M : Model} {args : List Value} {Q : Option Value → Shared → Prop} (X : K.In s.heap) (I : PySem.W.InstAt s.heap x ox C od) (hs : PySem.W.findIn K (.ref C) "__ne__" = some (some (.builtin "object.__ne__")))
    (h : wpAny M A (call (.builtin "object.__ne__") (.ref x :: args)) (fun v => Q (some v)) E s) : wpAny M A (callSpecialIfBound? (.ref x) "__ne__" args) Q E s := by
  simp only [callSpecialIfBound?, bindSpecialIfBound?]
  refine wpAny_holding (wpAny_bind (wpAny_bind (wpAny_bind (I.type.here ((PySem.W.looks_findIn X hs).here ?_)))))
  refine wpAny_bind (wpAny_askSetting (wpAny_ite ?_))
  have fin : wpAny M A (call (.builtin "object.__ne__") ([.ref x] ++ args) >>= fun v => pure (some v)) Q E s := wpAny_bind (wpAny_mono h (fun v s' h' => wpAny_pure h') fun _ _ h' => h')
  split
  · exact wpAny_bind (wpAny_of_eq (F.cmp_object.ne.bind _) (wpAny_pure (by exact fin)))
  · exact wpAny_tryCatch (wpAny_bind (wpAny_of_eq (F.cmp_object.ne.bind _) (wpAny_pure (by exact fin))))
theorem entry_ne (hu : A.units < cLine) (X : K.In s.heap) (I : PySem.W.InstAt s.heap x ox C od) (O : OwnQ K C f) {Q : Fin → Shared → Prop}
    (hcall : wpAny (model prog w) A (call (.ref f) [.ref x, b]) (fun v s' => ∃ c, v = .bool c ∧ Q (.done (.ret (.bool (!c)))) s') E s) :
    wpAny (model prog w) A (Builtin.«object.__ne__» ⟨[.ref x, b], []⟩) Q E s := by
  unfold Builtin.«object.__ne__»
  refine wpAny_bind (wpAny_of_eq (a := ((Value.ref x : Value), [b])) (by first | rfl | (simp only [slotArgs]; rfl)) ?_)
  dsimp only
  refine wpAny_bind (wpAny_cRoomFor hu ?_)
  refine wpAny_bind (m := callSpecialIfBound? (.ref x) (Str.ofString "__eq__") [b]) (PySem.W.ifBound_K X I O.at_ O.fn (wpAny_mono hcall (fun r s' hr => ?_) fun _ _ e => e))
  obtain ⟨c, rfl, hq⟩ := hr
  dsimp only
  exact wpAny_bind (wpAny_truthy_bool (wpAny_pure hq))
theorem ne_K {Q : Value → Shared → Prop} (hu : A.units + 1 < cLine) (Fm : Fr h₀ L s.heap m) (X₀ : K.In h₀) (I : PySem.W.InstAt s.heap x ox C od) (hb : PySem.W.Looks (model prog w) s.heap (typeOf b) tb) (hn : PySem.W.notFirst K C tb = true) (O : OwnQ K C f)
    (h : wpAny (model prog w) A.in1 (call (.ref f) [.ref x, b]) (fun v s' => ∃ c, v = .bool c ∧ Q (.bool (!c)) s') E s) : wpAny (model prog w) A (richCompare .NotEq (.ref x) b) Q E s := by
  have X := X₀.keeps Fm.keep
  have one : wpAny (model prog w) A (tryCompare (.ref x) (cmpInfo .NotEq).2.1 b) (fun r s' => ∃ v, r = some v ∧ Q v s') E s := by
    unfold tryCompare
    refine wpAny_bind (ifBound_ne X I O.ne (wpAny_call (codeAny_call_builtin F.cmp_object.ne.plain F.cmpEntry_ne (PySem.W.check_slot F.cmpKind_ne F.cmpSplit_ne (I.type.andThen (PySem.W.looks_mroIn X O.ob)) (F.cmpArgs_ne _ _)
      (entry_ne (A := A.in1) hu X I O (wpAny_mono h (fun v s' hv => ?_) fun _ _ e => e))))))
    obtain ⟨c, rfl, hq⟩ := hv
    first | exact ⟨c, rfl, wpAny_pure ⟨_, rfl, hq⟩⟩ | exact ⟨c, rfl, wpAny_pure (wpAny_pure ⟨_, rfl, hq⟩)⟩
  unfold richCompare
  simp only [oneThing_ref]
  refine wpAny_holding (wpAny_bind (wpAny_cRoomFor (Nat.lt_of_succ_lt hu) ?_))
  refine wpAny_bind (I.type.here (wpAny_bind (hb.here ?_)))
  split
  · rename_i q
    have e : PySem.W.subIn K tb (.ref C) = some false := by
      rcases Bool.or_eq_true_iff.mp hn with e | e
      · rw [beq_iff_eq.mp e] at q; simp at q
      · exact beq_iff_eq.mp e
    refine wpAny_bind ((PySem.W.looks_subIn X e).here ?_)
    simp only [Bool.false_eq_true, if_false]
    refine wpAny_bind (wpAny_mono one (fun r s' z => ?_) fun _ _ e => e)
    obtain ⟨v, rfl, hq⟩ := z
    exact wpAny_pure hq
  · refine wpAny_bind (wpAny_pure ?_)
    simp only [Bool.false_eq_true, if_false]
    refine wpAny_bind (wpAny_mono one (fun r s' z => ?_) fun _ _ e => e)
    obtain ⟨v, rfl, hq⟩ := z
    exact wpAny_pure hq
end
/-- x an instance of the class at C, y anything whose class goes not first; the own __eq__ keeps sp -/
def rOwnQ (K : PySem.W.Frag) (C : Addr) (sp : Sp) (neg : Bool) : R2 := fun x y H Q => ∃ a dx fs t, x = .ref a ∧ H a = some (.ins C dx fs) ∧ TyX K H y t ∧ PySem.W.notFirst K C t = true ∧ sp [x, y] H (fun v H' => ∃ b, v = .bl b ∧ Q (.bl (if neg = true then !b else b)) H') E0
section
variable {X : Cx} {C f : Addr} {fd : FuncData} {k : Nat} {ps : List Str} {sp : Sp}
theorem op_eqO (O : OwnQ X.K C f) (F : FnOk X.prog X.w X.K X.mg X.base CX0 k f fd ps sp) (hb : Binds X.K fd ps []) (hr : Room k X.A) : OpR X (compareOp .Eq) (rOwnQ X.K C sp false) := by
  intro pins s σ H x y v u Q I rx ry h
  obtain ⟨a, dx, fs, t, rfl, ha, hz, hn, q⟩ := h
  cases rx
  obtain ⟨mA, J, _⟩ := ins_get I.hok ha
  obtain ⟨od, J, _⟩ := J.look
  obtain ⟨m, hF⟩ := I.fr
  obtain ⟨P, Z, p, _⟩ := kit_of I ry hz
  have hy := Z.ty (model X.prog X.w) s.heap I.kIn p
  show wpAny (model X.prog X.w) X.A (richCompare .Eq (.ref a) u) (EP X pins σ Q) X.xe s
  refine PySem.W.cmp_K (op := .Eq) (tb := t) hr.units0 hF I.ok.mod.kin J hy hn O.at_ O.fn ?_
  refine wpAny_mono (run_fn (us := [.ref a, u]) (vs := [.ref a, y]) (E := E0) F hr hb .nil pass0 I (.cons rfl (.cons ry .nil)) (Q := fun v' H' => ∃ b, v' = .bl b ∧ Q (.bl b) H') (by simpa using q)) (fun w s' g => ?_) fun _ _ e => e
  obtain ⟨v', H', I', rv, b, rfl, q'⟩ := g
  cases (show w = Value.bool b from rv)
  exact ⟨.bl b, H', I', rfl, q'⟩
theorem op_neO (O : OwnQ X.K C f) (F : FnOk X.prog X.w X.K X.mg X.base CX0 k f fd ps sp) (hb : Binds X.K fd ps []) (hr : Room (k + 1) X.A) : OpR X (compareOp .NotEq) (rOwnQ X.K C sp true) := by
  intro pins s σ H x y v u Q I rx ry h
  obtain ⟨a, dx, fs, t, rfl, ha, hz, hn, q⟩ := h
  cases rx
  obtain ⟨mA, J, _⟩ := ins_get I.hok ha
  obtain ⟨od, J, _⟩ := J.look
  obtain ⟨m, hF⟩ := I.fr
  obtain ⟨P, Z, p, _⟩ := kit_of I ry hz
  have hy := Z.ty (model X.prog X.w) s.heap I.kIn p
  show wpAny (model X.prog X.w) X.A (richCompare .NotEq (.ref a) u) (EP X pins σ Q) X.xe s
  have FR : FnR X.prog X.w X.K X.mg X.base CX0 k f sp := fun A outer s H us vs Q E hr e0 r hs => by
    have hl : us.length = ps.length := by rw [← r.length]; exact F.len _ _ _ _ hs
    have := hb s us (e0.mod.kin.keeps fun b o e => (e0.bs b o e).1) (by simpa using hl)
    rw [List.append_nil] at this
    exact F.run A outer s H ⟨us, []⟩ us vs Q E hr e0 this r hs
  have z1 : X.A.units + 1 < cLine := by have := hr.un; omega
  refine ne_K (tb := t) z1 hF I.ok.mod.kin J hy hn O (wpAny_mono (wpAny_call (SlX.run_at (us := [.ref a, u]) (ws := [.ref a, y]) FR (Room.in1 hr) I.env0.in1 pass0 I (.cons rfl (.cons ry .nil)) (Q := fun v' H' => ∃ b, v' = .bl b ∧ Q (.bl (!b)) H') (by simpa using q))) (fun w s' g => ?_) fun _ _ e => e)
  obtain ⟨v', H', I', rv, b, rfl, q'⟩ := g
  cases (show w = Value.bool b from rv)
  exact ⟨b, rfl, .bl (!b), H', I', rfl, q'⟩
end
/-- what is never reached -/
theorem pe_nv {X : Cx} {e : Expr} : PE X e (fun _ _ _ => False) := ⟨fun _ _ _ _ _ _ h => h.elim⟩
theorem pi_nv {X : Cx} {tg e : Expr} : PI X tg e (fun _ _ _ => False) := ⟨by intros; rename_i h; exact h.elim⟩
theorem pg_nv {X : Cx} {tg : Expr} : PG X tg (fun _ _ _ _ => False) := ⟨by intros; rename_i h; exact h.elim⟩
theorem pss_nv {X : Cx} {b : List Stmt} : PSs X b (fun _ _ _ => False) := ⟨fun _ _ _ _ _ _ h => h.elim⟩
end Ow

set_option Elab.async false
set_option linter.all false
set_option maxRecDepth 100000
set_option maxHeartbeats 4000000
/-! == of a Kind -/
namespace Kd
open PySem PySem.Spec PyProof.Rows L2 Dq Vl
variable {OB : Type} {O : Obs OB} {od : OB → Bool}
mutual
/-- no object lies within -/
def nob : DV OB → Bool
  | .ob _ => false
  | .tup l => nobL l
  | .lst l => nobL l
  | .map _ l => nobL l
  | _ => true
def nobL : List (DV OB) → Bool
  | [] => true
  | x :: l => nob x && nobL l
end
/-- no object stands -/
def Oz (OB : Type) (K : PySem.W.Frag) (C : Addr) : Obs OB := { At := fun _ _ _ => False, cls := fun _ => C, eq := fun _ _ => false, K := K }
mutual
theorem Dv.z {K : PySem.W.Frag} {C : Addr} (kk : O.K = K) {H : Hp} : ∀ (d : DV OB) (v : V), nob d = true → Dv O H d v → Dv (Oz OB K C) H d v
  | .non, _, _, h => h
  | .bl _, _, _, h => h
  | .int _, _, _, h => h
  | .str _, _, _, h => h
  | .ob _, _, e, _ => nomatch e
  | .tup l, _, e, ⟨a, us, e1, h, p⟩ => ⟨a, us, e1, kk ▸ h, DvL.z kk l us e p⟩
  | .lst l, _, e, ⟨a, us, e1, h, p⟩ => ⟨a, us, e1, h, DvL.z kk l us e p⟩
  | .map _ l, _, e, ⟨a, kvs, e1, h, nd, hk, p⟩ => ⟨a, kvs, e1, h, nd, hk, DvL.z kk l _ e p⟩
theorem DvL.z {K : PySem.W.Frag} {C : Addr} (kk : O.K = K) {H : Hp} : ∀ (l : List (DV OB)) (us : List V), nobL l = true → DvL O H l us → DvL (Oz OB K C) H l us
  | [], _, _, h => h
  | x :: l, _, e, ⟨u, us, e1, h, p⟩ => ⟨u, us, e1, Dv.z kk x u (Bool.and_eq_true_iff.mp e).1 h, DvL.z kk l us (Bool.and_eq_true_iff.mp e).2 p⟩
end
/-- Kinds as objects with an own == -/
def Ok5 (O : Obs OB) (K : PySem.W.Frag) (C : Addr) : Obs (Kp OB) := { At := fun H k v => ∃ a, v = .ref a ∧ KdAt O C H a k, cls := fun _ => C, eq := fun k k' => eqD (Oz OB K C) (kpD k) (kpD k'), K := K }
theorem KpAt.keep {K : PySem.W.Frag} (W : Tw K O od) {H H' : Hp} {k : Kp OB} {vs : List V} (h : KpAt O H k vs) (s : Same H H') : KpAt O H' k vs := by
  obtain ⟨a, b, c, d, e, rfl, h1, h2, h3, h4, h5⟩ := h
  exact ⟨a, b, c, d, e, rfl, W.dv s _ _ h1, W.dv s _ _ h2, W.dv s _ _ h3, W.dv s _ _ h4, W.dv s _ _ h5⟩
theorem KdAt.keep {K : PySem.W.Frag} (W : Tw K O od) {C : Addr} {H H' : Hp} {a : Addr} {k : Kp OB} (h : KdAt O C H a k) (s : Same H H') : KdAt O C H' a k := by
  obtain ⟨dx, v1, v2, v3, v4, v5, ha, hk⟩ := h
  exact ⟨dx, v1, v2, v3, v4, v5, s _ _ ha, hk.keep W s⟩
structure ClsK (K : PySem.W.Frag) (C : Addr) : Prop where
  insC : C8.InsC K C
  kT : ∀ T, T ∈ ["list", "dict", "tuple"] → PySem.W.kitOne K (.ref C) (.type T) = some false
  makes : PySem.W.makesIn K C = true
theorem ok5 {K : PySem.W.Frag} {C : Addr} (W : Tw K O od) (U : ClsK K C) : ObsOk K (Ok5 O K C) where
  keep := fun s ⟨a, e, h⟩ => ⟨a, e, h.keep W s⟩
  ins := fun ⟨a, e, dx, v1, v2, v3, v4, v5, ha, _⟩ => ⟨a, dx, _, e, ha⟩
  insC := fun _ => U.insC
  kT := fun _ T h => U.kT T h
  makes := fun _ => U.makes
  kk := rfl
theorem okz {K : PySem.W.Frag} {C : Addr} (U : ClsK K C) : ObsOk K (Oz OB K C) where
  keep := fun _ h => h.elim
  ins := fun h => h.elim
  insC := fun _ => U.insC
  kT := fun _ T h => U.kT T h
  makes := fun _ => U.makes
  kk := rfl
abbrev sVEq : Stmt := inClass (Pf.top 3) 1
theorem scVEq : FnScope ["self", "other"] ["self", "other"] (defScope sVEq) := ⟨rfl, rfl, rfl, by decide +kernel, rfl, by decide +kernel, by decide +kernel⟩
/-- small enough, no object within -/
def okE (k : Kp OB) : Bool := nob (kpD k) && decide (wt (kpD k) ≤ 1000)
def spKEq (O : Obs OB) (K : PySem.W.Frag) (C : Addr) : Sp := fun vs H Q _ => ∃ (v u : V) (k : Kp OB), vs = [v, u] ∧ (Ok5 O K C).At H k v ∧ okE k = true ∧
  ((∃ k' : Kp OB, (Ok5 O K C).At H k' u ∧ okE k' = true ∧ ∀ H', Same H H' → Q (.bl (eqD (Oz OB K C) (kpD k) (kpD k'))) H') ∨ ∃ T, T ∈ ["tuple", "list", "NoneType"] ∧ TyB K H u T ∧ Q (.bl false) H)
section
variable {P : Program} {w : World} {K : PySem.W.Frag} {mg : Str → Option Value} {base : Heap} {C : Addr}
theorem ok_keq {f fP fE : Addr} {fd fdP fdE : FuncData} (F : Fun K "__eq__" "Valued.__eq__" sVEq f fd) (T : TxtKi K mg C) (TE : TxtE mg) (W : Tw K O od) (U : ClsK K C) (M : Meth K C "parts" fP) (GP : FnOk P w K mg base CX0 1 fP fdP ["self"] (spKPa O C)) (bP : Binds K fdP ["self"] [])
    (DE : Def P w K mg base 2 "equal" fE fdE ["one", "other"] (spEqual (Oz OB K C))) : FnOk P w K mg base CX0 3 f fd ["self", "other"] (spKEq O K C) := by
  have ok := ok5 W U
  refine F.ok scVEq (fun vs H Q E h => ?_) (fun cdv A outer s H vs Q E hr h => ?_)
  · obtain ⟨v, u, k, rfl, _⟩ := h
    rfl
  · obtain ⟨v, u, k, rfl, ⟨a, rfl, ha⟩, e1, h2⟩ := h
    have lkp : ∀ {v1 v2 v3 v4 v5 : V}, (kfl v1 v2 v3 v4 v5).lookup ("parts" : Str) = none := (lk_tl (by decide +kernel)).trans ((lk_tl (by decide +kernel)).trans ((lk_tl (by decide +kernel)).trans ((lk_tl (by decide +kernel)).trans ((lk_tl (by decide +kernel)).trans rfl))))
    refine ⟨_, pss_one (ps_ret (pe_and (pe_cmpR (op_isD ok) (pe_callTy (call_tyD ok) (by rfl) TE.type (by decide +kernel) (pa_cons (pv 0) pa_nil)) (pe_callTy (call_or (call_tyD ok) call_type1) (by rfl) TE.type (by decide +kernel) (pa_cons (pv 1) pa_nil)) (nomark _))
      (pe_one (pe_call DE.ok hr rfl DE.g DE.kp DE.b .nil pass0 (pa_cons (pe_meth0 (pv 0) T.cl M GP (hr.mono (by decide)) bP .nil pass0) (pa_cons (pe_meth0 (pv 1) T.cl M GP (hr.mono (by decide)) bP .nil pass0) pa_nil)))))), ?_⟩
    obtain ⟨dx, v1, v2, v3, v4, v5, ea, _⟩ := id ha
    refine ⟨_, rfl, _, .ob k, rfl, ⟨a, rfl, ha⟩, _, rfl, ?_⟩
    rcases h2 with ⟨k', ⟨b, rfl, hb⟩, e2, q⟩ | ⟨T', hT, ty, q⟩
    · simp only [okE, Bool.and_eq_true, decide_eq_true_eq] at e1 e2
      refine .inl ⟨_, .ob k', rfl, ⟨b, rfl, hb⟩, .ob k, .ob k', rfl, rfl, _, rfl, iteC (by simp [tyD, Ok5]) ?_⟩
      refine ⟨_, rfl, a, dx, _, rfl, ea, lkp, a, k, rfl, ha, fun w1 H1 k1 d1 => ?_⟩
      have hb1 := hb.keep W k1
      obtain ⟨dx', u1, u2, u3, u4, u5, eb, _⟩ := id hb1
      refine ⟨_, rfl, b, dx', _, rfl, eb, lkp, b, k', rfl, hb1, fun w2 H2 k2 d2 => ?_⟩
      refine ⟨w1, w2, _, _, rfl, Dv.z W.kk _ _ e1.1 (W.dv k2 _ _ d1), Dv.z W.kk _ _ e2.1 d2, Nat.le_trans e1.2 (by decide), Nat.le_trans e2.2 (by decide), fun H3 k3 => ?_⟩
      exact q H3 (Same.trans k1 (Same.trans k2 k3))
    · obtain ⟨y, ey⟩ : ∃ y : DV (Kp OB), V.ty T' = tyD (Ok5 O K C) y := by
        simp only [List.mem_cons, List.not_mem_nil, or_false] at hT
        rcases hT with rfl | rfl | rfl
        · exact ⟨.tup [], rfl⟩
        · exact ⟨.lst [], rfl⟩
        · exact ⟨.non, rfl⟩
      refine .inr ⟨_, T', rfl, ty, .ob k, y, rfl, ey, _, rfl, ?_⟩
      rw [← ey]
      exact iteN (by simp [tyD]) q
end
end Kd

set_option Elab.async false
set_option linter.all false
set_option maxRecDepth 100000
set_option maxHeartbeats 4000000
/-! own rule: try with any number of clauses «except X as n» -/
namespace Clz
open PySem PySem.Spec PyProof.Rows L2
/-- an exception of the class cls at a, with its dict d, has come to rest in the state s -/
def Rest (X : Cx) (pins : List (Addr × Obj)) (a : Addr) (cls : Value) (d : Option Addr) (σ : L2.St) (H : Hp) (s : Shared) : Prop :=
  ∃ (B : Heap) (s0 : Shared), Inv X pins σ H s0 ∧ (∀ b o, s0.heap.get? b = some o → b ∉ frs X.stack → B.get? b = some o) ∧ s0.heap.UpToSlots s.heap ∧ HandSPX.FlyingZ B X.stack a (Zc cls d) s.heap ∧ H a = none ∧ s.os = s0.os ∧ AllBare s.gens
abbrev Cl := Addr → Value → Option Addr → Ends → L2.St → Hp → Prop
/-- what the clauses make of it -/
def Clauses (X : Cx) (hds : List ExceptHandler) (G : Cl) : Prop :=
  ∀ (pins : List (Addr × Obj)) (s : Shared) (σ : L2.St) (H : Hp) (D : Ends) (a : Addr) (cls : Value) (d : Option Addr), Rest X pins a cls d σ H s → G a cls d D σ H → wpAny (model X.prog X.w) X.A (handleBy (.ref a) X.env hds) (SP X pins D) X.xe s
section
variable {X : Cx} {pins : List (Addr × Obj)} {a : Addr} {cls : Value} {d : Option Addr} {σ : L2.St} {H : Hp} {s : Shared}
theorem Rest.inv (r : Rest X pins a cls d σ H s) : Inv X pins σ H s := by
  obtain ⟨B, s0, J, nb, up, fl, na, os, ag⟩ := r
  exact J.landed nb fl.1 up os ag
theorem Rest.at_ (r : Rest X pins a cls d σ H s) : ∃ oe vs, s.heap.get? a = some oe ∧ Zc cls d oe ∧ oe.data = .fields vs ∧ H a = none ∧ a ∉ frs X.stack := by
  obtain ⟨B, s0, J, nb, up, fl, na, os, ag⟩ := r
  obtain ⟨oe, vs, he, hz, hd⟩ := fl.there
  refine ⟨oe, vs, he, hz, hd, na, fun hm => ?_⟩
  obtain ⟨_, o', e', hnf⟩ := fl.2.2.1.mem hm
  rw [he] at e'
  cases e'
  exact hnf _ hd
theorem Rest.suite (r : Rest X pins a cls d σ H s) (hs : X.stack = X.env :: X.outer) (hf : X.env.frame = some X.env.locals) {oe : Obj} {vs : Array Value} (he : s.heap.get? a = some oe) (hd : oe.data = .fields vs) : Inv (X.suite a ((a, oe) :: (X.pn ++ pins))) [] σ H s := by
  obtain ⟨_, _, _, _, _, na, nf⟩ := r.at_
  rw [hs] at nf
  refine r.inv.suite he hd na (fun z => nf (List.mem_filterMap.mpr ⟨X.env, List.mem_cons_self, by rw [hf, z]⟩)) fun hm => ?_
  obtain ⟨e, he, q⟩ := List.mem_filterMap.mp hm
  exact nf (List.mem_filterMap.mpr ⟨e, List.mem_cons_of_mem _ he, q⟩)
/-- no clause is left: it flies on -/
theorem cl_end {W : WX} (hs : X.stack = X.env :: X.outer) (hf : X.env.frame = some X.env.locals) (tk : Takes X W) : Clauses X [] (fun _ cls d _ σ H => W cls d σ H) := by
  intro pins s σ H D a cls d r w
  obtain ⟨B, s0, J, nb, up, fl, na, os, ag⟩ := r
  refine wpAny_handleBy_nil ?_
  obtain ⟨_, _, _, oe, vs, T, oT, ts', he, hz, hd, h1, hr⟩ := id fl
  unfold PySem.passOn
  refine wpAny_bind (wpAny_field he hd h1 ?_)
  rw [if_neg (show ¬ ((Value.ref T == Value.none) = true) from by simp)]
  have fin : wpAny (model X.prog X.w) X.A (setFlight (.ref a) X.env.frame) (fun _ s4 => wpAny (model X.prog X.w) X.A (throw (.ref a) : Sem Flow) (SP X pins D) X.xe s4) X.xe s := by
    rw [hf]
    exact HandSPX.setFlight_upZ fl fun h4 hh4 up4 => wpAny_throw (tk _ _ ⟨a, B, s0, pins, σ, H, cls, d, rfl, J, nb, up.trans up4, .inr (.inr hh4), na, os, ag, w⟩)
  first
    | exact wpAny_bind (wpAny_pure (wpAny_bind fin))
    | exact wpAny_bind fin
/-- the ends of a suite whose name goes behind it -/
def Ends.gone (D : Ends) (i : Nat) : Ends := { nx := fun σ' H' => D.nx (σ'.set i none) H', rt := D.rt, bk := fun σ' H' => D.bk (σ'.set i none) H', ct := fun σ' H' => D.ct (σ'.set i none) H' }
/-- except x as n, n in slot i -/
theorem cl_as {x n : Str} {c : Value} {i : Nat} {b₀ : Stmt} {suite : List Stmt} {np pos' : Pos} {ts : Addr → Value → Option Addr → TS} {hds : List ExceptHandler} {G : Cl}
    (hs : X.stack = X.env :: X.outer) (hf : X.env.frame = some X.env.locals) (hN : X.N.Nodup) (hi : X.N[i]? = some n) (hln : X.env.kindOf n = some .local) (hc : Names X x c)
    (hsu : ∀ (a : Addr) (oe : Obj) (cls : Value) (d : Option Addr) (pn : List (Addr × Obj)), Zc cls d oe → (∃ vs, oe.data = .fields vs) → PSs (X.suite a ((a, oe) :: pn)) (b₀ :: suite) (ts a cls d)) (rest : Clauses X hds G) :
    Clauses X (.ExceptHandler (some (.Name x np)) (some n) (b₀ :: suite) pos' :: hds) (fun a cls d D σ H => ∃ b, PySem.W.exmOne X.K cls c = some b ∧ (b = true → ts a cls d (Ends.gone D i) (σ.set i (some (.ref a))) H) ∧ (b = false → G a cls d D σ H)) := by
  intro pins s σ H D a cls d r w
  obtain ⟨b, hb1, hyes, hno⟩ := w
  obtain ⟨oe, vs, he, hz, hd, na, nf⟩ := r.at_
  have S3 := r.suite hs hf he hd
  have ok := r.inv.ok
  refine wpAny_handleBy_cons (codeAny_handlers_test ?_) (by intro q; cases q)
  have LT : PySem.W.Looks (model X.prog X.w) s.heap (typeOf (.ref a)) cls := fun A Q E s k q => wpAny_typeOf_ref (k _ _ he) (by rw [hz.1]; exact q)
  have LM := PySem.W.exm_one (M := model X.prog X.w) r.inv.kIn LT hb1
  have test : ∀ {Q : Value → Shared → Prop} {E : Value → Shared → Prop}, Q c s → wpAny (model X.prog X.w) (X.A.mark (some (.ref a))) (eval (.Name x np) X.env) Q E s := fun {Q E} q => by
    obtain ⟨hg, hdbg, hm | ⟨hm, hv, hnn⟩⟩ := hc
    · exact ld_glob (X := X.suite a ((a, oe) :: (X.pn ++ pins))) S3 hg hm q hdbg
    · exact ld_blt (X := X.suite a ((a, oe) :: (X.pn ++ pins))) S3 hg hm hv q hnn hdbg
  refine test (LM.here ?_)
  cases b with
  | false => exact rest pins s σ H D a cls d r (hno rfl)
  | true =>
    obtain ⟨B, s0, J, nb, up, fl, _, os, ag⟩ := r
    refine codeAny_handlers_suite_as (HandSPX.lands_againZ fl fun h4 fl4 up4 => ?_)
    have r4 : Rest X pins a cls d σ H { s with heap := h4 } := ⟨B, s0, J, nb, up.trans up4, fl4, na, os, ag⟩
    obtain ⟨oe4, vs4, he4, hz4, hd4, _⟩ := r4.at_
    refine store_ok (X := X.suite a ((a, oe4) :: (X.pn ++ pins))) (v := .ref a) (r4.suite hs hf he4 hd4) hN hi (.inl hln) rfl (fun s5 S5 => ?_) (.inr hln)
    refine wpAny_mono ((hsu a oe4 cls d (X.pn ++ pins) hz4 ⟨_, hd4⟩).run [] s5 _ H _ S5 (hyes rfl)) (fun f s6 h6 => ?_) (fun _ _ z => False.elim z)
    have gone : ∀ {σ6 : L2.St} {H6 : Hp} {Q : Shared → Prop}, Inv (X.suite a ((a, oe4) :: (X.pn ++ pins))) [] σ6 H6 s6 → (∀ s7, Inv X pins (σ6.set i none) H6 s7 → Q s7) →
        wpAny (model X.prog X.w) X.A (do bindName X.env n .none; unbindBehindTheSuite X.env n pos') (fun _ s7 => Q s7) X.xe s6 := fun S6 hq => gone_ok (S6.unsuite ok) hN hi hln hq
    cases f with
    | ret u =>
      obtain ⟨v6, σ6, H6, S6, r6, q6⟩ := h6
      exact gone S6 fun s7 J7 => ⟨_, _, _, J7, r6, q6⟩
    | next =>
      obtain ⟨σ6, H6, S6, q6⟩ := h6
      exact gone S6 fun s7 J7 => ⟨_, _, J7, q6⟩
    | brk =>
      obtain ⟨σ6, H6, S6, q6⟩ := h6
      exact gone S6 fun s7 J7 => ⟨_, _, J7, q6⟩
    | cont =>
      obtain ⟨σ6, H6, S6, q6⟩ := h6
      exact gone S6 fun s7 J7 => ⟨_, _, J7, q6⟩
/-- try: body / clauses -/
theorem ps_try_cl {body : List Stmt} {h₀ : ExceptHandler} {hds : List ExceptHandler} {pos : Pos} {tb : WX → TS} {G : Cl} (hs : X.stack = X.env :: X.outer) (hf : X.env.frame = some X.env.locals)
    (hb : ∀ (W : WX) (pn : List (Addr × Obj)) (xe : Value → Shared → Prop), Takes (X.tr pn xe) W → PassesOwn (model X.prog X.w) X.A X.env xe → PSs (X.tr pn xe) body (tb W)) (hc : Clauses X (h₀ :: hds) G) :
    PS X (.Try body (h₀ :: hds) [] [] pos) (fun D σ H => tb (fun cls d σ' H' => σ'.length = X.N.length → ∀ a, H' a = none → G a cls d D σ' H') D σ H) := by
  refine ⟨fun pins s σ H D I h => wpAny_Try_except ?_⟩
  have ok := I.ok
  have hfr : X.A.frames = some (X.env :: X.outer) := by rw [ok.frames, hs]
  refine wpAny_mono ((hb _ (X.pn ++ pins) (fun e s₁ => wpAny (model X.prog X.w) X.A (noteFrame e X.env) (fun _ s₂ => wpAny (model X.prog X.w) X.A (setFlight e none) (fun _ s₃ =>
    wpAny (model X.prog X.w) X.A (handleBy e X.env (h₀ :: hds)) (SP X pins D) X.xe s₃) X.xe s₂) X.xe s₁) (fun u s' xx => ?_) PassesOwn.looking).run [] s σ H D (I.toTry _) h) (fun f s1 h1 => ?_) (fun e s1 he => he)
  · obtain ⟨a, B, s0, pins', σ', H', cls, d, rfl, J', nb, up, sky, na, os, ag, w⟩ := xx
    have sky' : Sky B (X.env :: X.outer) a (Zc cls d) X.env.locals s'.heap := by rw [← hs]; exact sky
    refine Sky.land Zc.steady hfr hf sky' fun h3 fl3 up3 => ?_
    exact hc pins _ σ' H' D a cls d ⟨B, s0, J'.ofTry ok, nb, up.trans up3, by rw [hs]; exact fl3, na, os, ag⟩ (w J'.len a na)
  · cases f with
    | ret u =>
      obtain ⟨v, σ', H', J', r, q⟩ := h1
      exact ⟨v, σ', H', J'.ofTry ok, r, q⟩
    | next =>
      obtain ⟨σ', H', J', q⟩ := h1
      exact wpAny_execs_nil ⟨σ', H', J'.ofTry ok, q⟩
    | brk =>
      obtain ⟨σ', H', J', q⟩ := h1
      exact ⟨σ', H', J'.ofTry ok, q⟩
    | cont =>
      obtain ⟨σ', H', J', q⟩ := h1
      exact ⟨σ', H', J'.ofTry ok, q⟩
end
end Clz

set_option Elab.async false
set_option linter.all false
set_option maxRecDepth 100000
set_option maxHeartbeats 4000000
/-! data with instances as their objects; isinstance of five classes; what stays -/
namespace Kd
open PySem PySem.Spec PyProof.Rows L2 Dq Vl Pf
abbrev D5 := DV Unit
structure InsT (K : PySem.W.Frag) (C : Addr) : Prop where
  i : C8.InsC K C
  t : ∀ T ∈ ["str", "tuple", "dict", "bool", "int", "list"], PySem.W.kitOne K (.ref C) (.type T) = some false
/-- an instance -/
def O5 (K : PySem.W.Frag) : Obs Unit := { At := fun H _ v => ∃ a C dx fs, v = .ref a ∧ H a = some (.ins C dx fs) ∧ InsT K C, cls := fun _ => 0, eq := fun _ _ => false, K := K }
theorem tw5 (K : PySem.W.Frag) : Tw K (O5 K) (fun _ => false) where
  keep := fun s ⟨a, C, dx, fs, e, h, t⟩ => ⟨a, C, dx, fs, e, s _ _ h, t⟩
  isi := fun {H o v} ⟨a, C, dx, fs, e, h, t⟩ => by
    subst e
    have U := t.i
    refine ⟨.ref C, .base (.ins h U.cl U.ha U.hn U.htk U.hm), fun T hT => ?_⟩
    rw [Bool.false_and]
    refine t.t T ?_
    simp only [List.mem_cons, List.not_mem_nil, or_false] at hT ⊢
    rcases hT with rfl | rfl | rfl | rfl <;> simp
  nn := fun ⟨a, C, dx, fs, e, _⟩ z => by rw [e] at z; cases z
  kk := rfl
  dic := fun _ h => nomatch h
def isT6 (T : String) : D5 → Bool
  | .non => false
  | .bl _ => decide (T = "bool") || decide (T = "int")
  | .int _ => decide (T = "int")
  | .str _ => decide (T = "str")
  | .ob _ => false
  | .tup _ => decide (T = "tuple")
  | .lst _ => decide (T = "list")
  | .map _ _ => decide (T = "dict")
theorem kit_tab6 : ∀ a ∈ ["NoneType", "int", "str", "tuple", "list", "dict"], ∀ T ∈ ["str", "tuple", "dict", "bool", "int", "list"], kitB a T = some (a == T) := by decide +kernel
theorem kit_tab7 : ∀ T ∈ ["str", "tuple", "dict", "bool", "int", "list"], kitB "bool" T = some (decide (T = "bool") || decide (T = "int")) := by decide +kernel
theorem beq_dec (a b : String) : (a == b) = decide (b = a) := by
  rw [Bool.eq_iff_iff, beq_iff_eq, decide_eq_true_eq]
  exact ⟨Eq.symm, Eq.symm⟩
theorem tyK6 {K : PySem.W.Frag} {H : Hp} {x : D5} {v : V} (h : Dv (O5 K) H x v) : ∃ t, TyX K H v t ∧ ∀ T ∈ ["str", "tuple", "dict", "bool", "int", "list"], PySem.W.kitOne K t (.type T) = some (isT6 T x) := by
  have go : ∀ a, a ∈ ["NoneType", "int", "str", "tuple", "list", "dict"] → ∀ T ∈ ["str", "tuple", "dict", "bool", "int", "list"], PySem.W.kitOne K (.type a) (.type T) = some (decide (T = a)) := fun a ha T hT => by
    rw [← beq_dec]
    exact kit_ty (kit_tab6 a ha T hT)
  cases x with
  | non => cases h; exact ⟨_, .base .non, fun T hT => (go "NoneType" (by simp) T hT).trans (by
      simp only [List.mem_cons, List.not_mem_nil, or_false] at hT
      rcases hT with rfl | rfl | rfl | rfl | rfl | rfl <;> rfl)⟩
  | bl b => cases h; exact ⟨_, .base (.bl b), fun T hT => kit_ty (kit_tab7 T hT)⟩
  | int i => cases h; exact ⟨_, .base (.int i), go "int" (by simp)⟩
  | str s => cases h; exact ⟨_, .base (.str s), go "str" (by simp)⟩
  | ob o =>
    obtain ⟨a, C, dx, fs, rfl, h, t⟩ := h
    have U := t.i
    exact ⟨.ref C, .base (.ins h U.cl U.ha U.hn U.htk U.hm), t.t⟩
  | tup l => obtain ⟨a, us, rfl, e, _⟩ := h; exact ⟨_, SqT.tyx e, go "tuple" (by simp)⟩
  | lst l => obtain ⟨a, us, rfl, e, _⟩ := h; exact ⟨_, .base (.lst e), go "list" (by simp)⟩
  | map ks l => obtain ⟨a, us, rfl, e, _⟩ := h; exact ⟨_, .base (.dK e), go "dict" (by simp)⟩
theorem call_is6 {X : Cx} {T : String} (hT : T ∈ ["str", "tuple", "dict", "bool", "int", "list"]) : CallR X (.builtin "isinstance") (fun xs H Q => ∃ v x, xs = [v, .ty T] ∧ Dv (O5 X.K) H x v ∧ Q (.bl (isT6 T x)) H) := fun pins s σ H xs us Q I r ⟨v, x, e, h, q⟩ => by
  obtain ⟨t, h1, h2⟩ := tyK6 h
  exact call_isi pins s σ H xs us Q I r ⟨v, .ty T, t, .type T, _, e, .ty T, h1, h2 T hT, q⟩
/-! ### what stays -/
/-- all but what stands at the places of S -/
def Ch (S : List Addr) (H H' : Hp) : Prop := ∀ b o, H b = some o → b ∉ S → H' b = some o
theorem Ch.refl (S : List Addr) (H : Hp) : Ch S H H := fun _ _ e _ => e
theorem Ch.trans {S : List Addr} {H H1 H2 : Hp} (h : Ch S H H1) (k : Ch S H1 H2) : Ch S H H2 := fun b o e n => k b o (h b o e n) n
theorem Ch.same {S : List Addr} {H H' : Hp} (h : Same H H') : Ch S H H' := fun b o e _ => h b o e
theorem Ch.mono {S T : List Addr} {H H' : Hp} (h : Ch S H H') (m : ∀ b ∈ S, b ∈ T) : Ch T H H' := fun b o e n => h b o e fun q => n (m b q)
theorem Ch.upd {S : List Addr} {H : Hp} {a : Addr} {o : HO} (m : a ∈ S) : Ch S H (upd H a o) := fun b u e n => (upd_ne fun q => n (by rw [q]; exact m)).trans e
theorem Ch.updNew {S : List Addr} {H H1 : Hp} {a : Addr} {o : HO} (h : Ch S H H1) (n : H a = none) : Ch S H (L2.upd H1 a o) := fun b u e m => (upd_ne (ne_of_none e n)).trans (h b u e m)
theorem Ch.new {S : List Addr} {H : Hp} {a : Addr} {o : HO} (n : H a = none) : Ch S H (L2.upd H a o) := Ch.same (sm_upd n)
theorem Ch.but {a : Addr} {H H' : Hp} (h : But a H H') : Ch [a] H H' := fun b o e n => h b o e fun q => n (by rw [q]; exact List.mem_singleton.mpr rfl)
mutual
/-- kept data: no lists, maps with the keys of Ks alone, no objects -/
def kpt (Ks : List (List Str)) : D5 → Bool
  | .lst _ => false
  | .ob _ => false
  | .tup l => kptL Ks l
  | .map ks l => decide (ks ∈ Ks) && kptL Ks l
  | _ => true
def kptL (Ks : List (List Str)) : List D5 → Bool
  | [] => true
  | x :: l => kpt Ks x && kptL Ks l
end
/-- no kept data stands there: no tuple, no dict with keys of Ks -/
def Alien (Ks : List (List Str)) (o : HO) : Prop := (∀ xs, o ≠ .tup xs) ∧ (∀ ob xs, o ≠ .frz ob (.tup xs)) ∧ ∀ kvs ks, o = .dK kvs → ks ∈ Ks → kvs.map (·.1) ≠ ks.map Sum.inr
section
variable {K : PySem.W.Frag} {H H' : Hp} {S : List Addr} {Ks : List (List Str)}
theorem sqt_ch {b : Addr} {us : List V} (h : SqT K H b us) (k : Ch S H H') (al : ∀ a ∈ S, ∀ o, H a = some o → Alien Ks o) : SqT K H' b us := by
  rcases h with (h | ⟨o, h⟩) | h
  · exact .inl (.inl (k _ _ h fun q => (al b q _ h).1 _ rfl))
  · exact .inl (.inr ⟨o, k _ _ h fun q => (al b q _ h).2.1 _ _ rfl⟩)
  · exact .inr h
mutual
theorem Dv.ch (k : Ch S H H') (al : ∀ a ∈ S, ∀ o, H a = some o → Alien Ks o) : ∀ (x : D5) (v : V), kpt Ks x = true → Dv (O5 K) H x v → Dv (O5 K) H' x v
  | .non, _, _, h => h
  | .bl _, _, _, h => h
  | .int _, _, _, h => h
  | .str _, _, _, h => h
  | .ob _, _, n, _ => nomatch n
  | .tup l, _, n, ⟨b, us, e, h, p⟩ => by
    rw [kpt] at n
    exact ⟨b, us, e, sqt_ch h k al, DvL.ch k al l us n p⟩
  | .lst l, _, n, _ => by rw [kpt] at n; cases n
  | .map ks l, _, n, ⟨b, kvs, e, h, nd, hk, p⟩ => by
    rw [kpt, Bool.and_eq_true, decide_eq_true_eq] at n
    exact ⟨b, kvs, e, k _ _ h (fun q => (al b q _ h).2.2 _ _ rfl n.1 hk), nd, hk, DvL.ch k al l _ n.2 p⟩
theorem DvL.ch (k : Ch S H H') (al : ∀ a ∈ S, ∀ o, H a = some o → Alien Ks o) : ∀ (l : List D5) (us : List V), kptL Ks l = true → DvL (O5 K) H l us → DvL (O5 K) H' l us
  | [], _, _, h => h
  | x :: l, _, n, ⟨u, us, e, h, p⟩ => by
    rw [kptL, Bool.and_eq_true] at n
    exact ⟨u, us, e, Dv.ch k al x u n.1 h, DvL.ch k al l us n.2 p⟩
end
end
end Kd

set_option Elab.async false
set_option linter.all false
set_option maxRecDepth 100000
set_option maxHeartbeats 4000000
/-! what stays where lists change; small things -/
namespace Kd
open PySem PySem.Spec PyProof.Rows L2 Dq Vl Pf
/-- all but lists stays -/
def Kt (H H' : Hp) : Prop := ∀ b o, H b = some o → (∀ xs, o ≠ .lst xs) → H' b = some o
theorem Kt.refl (H : Hp) : Kt H H := fun _ _ e _ => e
theorem Kt.trans {H H1 H2 : Hp} (h : Kt H H1) (k : Kt H1 H2) : Kt H H2 := fun b o e n => k b o (h b o e n) n
theorem Kt.same {H H' : Hp} (h : Same H H') : Kt H H' := fun b o e _ => h b o e
theorem Kt.but {H H' : Hp} {a : Addr} {z : Int} (hw : WellAt H a z) (h : But a H H') : Kt H H' := fun b o e n => h b o e fun q => by
  obtain ⟨x, y, ha⟩ := hw
  rw [q, ha] at e
  cases e
  exact n _ rfl
theorem Kt.lst {H : Hp} {a : Addr} {xs ys : List V} (h : H a = some (.lst xs)) : Kt H (upd H a (.lst ys)) := fun b o e n => by
  refine (upd_ne fun q => ?_).trans e
  rw [q, h] at e
  cases e
  exact n _ rfl
theorem Kt.new {H : Hp} {a : Addr} {o : HO} (h : H a = none) : Kt H (upd H a o) := Kt.same (sm_upd h)
mutual
/-- no list lies within -/
def nol : D5 → Bool
  | .lst _ => false
  | .tup l => nolL l
  | .map _ l => nolL l
  | _ => true
def nolL : List D5 → Bool
  | [] => true
  | x :: l => nol x && nolL l
end
section
variable {K : PySem.W.Frag} {H H' : Hp}
mutual
theorem Dv.kt (k : Kt H H') : ∀ (x : D5) (v : V), nol x = true → Dv (O5 K) H x v → Dv (O5 K) H' x v
  | .non, _, _, h => h
  | .bl _, _, _, h => h
  | .int _, _, _, h => h
  | .str _, _, _, h => h
  | .ob _, _, _, ⟨p, C, dx, fs, e, h, t⟩ => ⟨p, C, dx, fs, e, k _ _ h (fun xs q => nomatch q), t⟩
  | .tup l, _, n, ⟨b, us, e, h, p⟩ => by
    rw [nol] at n
    refine ⟨b, us, e, ?_, DvL.kt k l us n p⟩
    rcases h with (h | ⟨o, h⟩) | h
    · exact .inl (.inl (k _ _ h fun xs q => nomatch q))
    · exact .inl (.inr ⟨o, k _ _ h fun xs q => nomatch q⟩)
    · exact .inr h
  | .lst l, _, n, _ => by rw [nol] at n; cases n
  | .map _ l, _, n, ⟨b, kvs, e, h, nd, hk, p⟩ => by
    rw [nol] at n
    exact ⟨b, kvs, e, k _ _ h (fun xs q => nomatch q), nd, hk, DvL.kt k l _ n p⟩
theorem DvL.kt (k : Kt H H') : ∀ (l : List D5) (us : List V), nolL l = true → DvL (O5 K) H l us → DvL (O5 K) H' l us
  | [], _, _, h => h
  | x :: l, _, n, ⟨u, us, e, h, p⟩ => by
    rw [nolL, Bool.and_eq_true] at n
    exact ⟨u, us, e, Dv.kt k x u n.1 h, DvL.kt k l us n.2 p⟩
end
end
theorem nolL_all : ∀ {l : List D5}, (∀ d ∈ l, nol d = true) → nolL l = true
  | [], _ => by simp [nolL]
  | x :: l, h => by rw [nolL, h x List.mem_cons_self, nolL_all fun d hd => h d (List.mem_cons_of_mem _ hd)]; rfl
theorem DvL.snoc {OB : Type} {O : Obs OB} {H : Hp} {x : DV OB} {v : V} (h : Dv O H x v) : ∀ {l : List (DV OB)} {us : List V}, DvL O H l us → DvL O H (l ++ [x]) (us ++ [v])
  | [], _, p => by cases p; exact ⟨v, [], rfl, h, rfl⟩
  | y :: l, _, ⟨u, us, e, h', p⟩ => by subst e; exact ⟨u, us ++ [v], rfl, h', DvL.snoc h p⟩
theorem butT {a : Addr} {H H1 H2 : Hp} (x : But a H H1) (y : But a H1 H2) : But a H H2 := fun b o h n => y b o (x b o h n) n
theorem butS {a : Addr} {H H1 : Hp} (x : Same H H1) : But a H H1 := fun b o h _ => x b o h
theorem wellNe {H : Hp} {a D : Addr} {z : Int} (w : WellAt H a z) (h : H D = none) : D ≠ a := fun e => by
  obtain ⟨x, y, e1⟩ := w
  rw [e, e1] at h
  cases h
theorem wellS {H H' : Hp} {a : Addr} {z : Int} (w : WellAt H a z) (k : Same H H') : WellAt H' a z := by
  obtain ⟨x, y, e1⟩ := w
  exact ⟨x, y, k _ _ e1⟩
theorem wellU {H : Hp} {a D : Addr} {z : Int} {o : HO} (w : WellAt H a z) (n : D ≠ a) : WellAt (upd H D o) a z := by
  obtain ⟨x, y, e1⟩ := w
  exact ⟨x, y, (upd_ne (Ne.symm n)).trans e1⟩
/-- a change of a list that was not there at H -/
theorem butU {H H1 : Hp} {a D : Addr} {o : HO} (k : But a H H1) (n : H D = none) : But a H (upd H1 D o) := fun b x e nb => by
  have nD : b ≠ D := fun q => by rw [q, n] at e; cases e
  exact (upd_ne nD).trans (k b x e nb)
theorem dvl_mem {OB : Type} {O : Obs OB} {H : Hp} {v : V} : ∀ {l : List (DV OB)} {us : List V}, DvL O H l us → v ∈ us → ∃ d ∈ l, Dv O H d v
  | [], _, p, h => by cases p; cases h
  | x :: l, _, ⟨u, us, e, hx, p⟩, h => by
    subst e
    rcases List.mem_cons.mp h with rfl | h
    · exact ⟨x, List.mem_cons_self, hx⟩
    · obtain ⟨d, hd, k⟩ := dvl_mem p h
      exact ⟨d, List.mem_cons_of_mem _ hd, k⟩
theorem dvl_str {OB : Type} {O : Obs OB} {H : Hp} : ∀ (l : List Str), DvL O H (l.map DV.str) (l.map V.str)
  | [] => rfl
  | x :: l => ⟨_, _, rfl, rfl, dvl_str l⟩
theorem filter_succ {α : Type} (p : α → Bool) {l : List α} {i : Nat} {x : α} (h : l[i]? = some x) : (l.take (i + 1)).filter p = (l.take i).filter p ++ (if p x then [x] else []) := by
  have hi : i < l.length := by
    rcases Nat.lt_or_ge i l.length with q | q
    · exact q
    · rw [List.getElem?_eq_none q] at h; cases h
  rw [List.take_succ, h, List.filter_append]
  simp only [Option.toList, List.filter_cons, List.filter_nil]
end Kd

set_option Elab.async false
set_option linter.all false
set_option maxRecDepth 100000
set_option maxHeartbeats 4000000
/-! expressions whose value is data, whatever else stands -/
namespace Ed
open PySem PySem.Spec PyProof.Rows L2 Dq Vl
variable {OB : Type} {O : Obs OB} {K : PySem.W.Frag}
abbrev apd (l m : List (DV OB)) : List (DV OB) := l ++ m
structure Kps (K : PySem.W.Frag) (O : Obs OB) : Prop where
  dv : ∀ {H H' : Hp} {x : DV OB} {v : V}, Same H H' → Dv O H x v → Dv O H' x v
  dvl : ∀ {H H' : Hp} {l : List (DV OB)} {us : List V}, Same H H' → DvL O H l us → DvL O H' l us
  kk : O.K = K
def ED (O : Obs OB) (te : TE) (σ : L2.St) (H : Hp) (d : DV OB) : Prop := ∀ H1, Same H H1 → ∀ Q : VK, (∀ v H2, Same H1 H2 → Dv O H2 d v → Q v H2) → te σ H1 Q
def EA (O : Obs OB) (ta : TA) (σ : L2.St) (H : Hp) (l : List (DV OB)) : Prop := ∀ H1, Same H H1 → ∀ Q : List V → Hp → Prop, (∀ vs H2, Same H1 H2 → DvL O H2 l vs → Q vs H2) → ta σ H1 Q
def EO (to : TO) (σ : L2.St) (H : Hp) (o : Option Int) : Prop := ∀ H1, Same H H1 → ∀ Q : Option Int → Hp → Prop, (∀ H2, Same H1 H2 → Q o H2) → to σ H1 Q
variable {σ : L2.St} {H : Hp}
theorem ED.mono {te : TE} {H' : Hp} {d : DV OB} (h : ED O te σ H d) (s : Same H H') : ED O te σ H' d := fun H1 s1 Q k => h H1 (Same.trans s s1) Q k
theorem ED.run {te : TE} {d : DV OB} (h : ED O te σ H d) {Q : VK} (k : ∀ v H2, Same H H2 → Dv O H2 d v → Q v H2) : te σ H Q := h H (Same.refl H) Q k
theorem EA.run {ta : TA} {l : List (DV OB)} (h : EA O ta σ H l) {Q : List V → Hp → Prop} (k : ∀ vs H2, Same H H2 → DvL O H2 l vs → Q vs H2) : ta σ H Q := h H (Same.refl H) Q k
theorem ED.as {te : TE} {d : DV OB} (h : ED O te σ H d) : ED O te σ H d := h
/-- name = e, then the rest -/
theorem ED.seq {te : TE} {d : DV OB} {u : TS} {D : Ends} {i : Nat} (h : ED O te σ H d) (k : ∀ v H2, Same H H2 → Dv O H2 d v → u D (σ.set i (some v)) H2) : tSeq (tAsg te (gName i)) u D σ H := h.run k
theorem ED.ret {te : TE} {d : DV OB} {D : Ends} (h : ED O te σ H d) (k : ∀ v H2, Same H H2 → Dv O H2 d v → D.rt v H2) : tRet te D σ H := h.run k
theorem EA.call {ta : TA} {sp : Sp} {dvs : List V} {E : XK} {Q : VK} {l : List (DV OB)} (h : EA O ta σ H l) (k : ∀ vs H2, Same H H2 → DvL O H2 l vs → sp (vs ++ dvs) H2 Q E) : tCall sp dvs E ta σ H Q := h.run k
theorem ED.cons {te : TE} {ta : TA} {d : DV OB} {Q : List V → Hp → Prop} (h : ED O te σ H d) (k : ∀ v H2, Same H H2 → Dv O H2 d v → ta σ H2 fun xs H3 => Q (v :: xs) H3) : tCons te ta σ H Q := h.run k
theorem ed_pv (P : Kps K O) {i : Nat} {v : V} {d : DV OB} (e : σ[i]? = some (some v)) (h : Dv O H d v) : ED O (tVar i) σ H d := fun H1 s Q k => ⟨v, e, k v H1 (Same.refl _) (P.dv s h)⟩
theorem ed_str {s : Str} : ED O (tC (.str s)) σ H (.str s) := fun H1 _ Q k => k _ H1 (Same.refl _) rfl
theorem ed_int {i : Int} : ED O (tC (.int i)) σ H (.int i) := fun H1 _ Q k => k _ H1 (Same.refl _) rfl
theorem ed_bl {b : Bool} : ED O (tC (.bl b)) σ H (.bl b) := fun H1 _ Q k => k _ H1 (Same.refl _) rfl
theorem ed_non : ED O (tC .non) σ H .non := fun H1 _ Q k => k _ H1 (Same.refl _) rfl
theorem ea_nil : EA O tNil σ H [] := fun H1 _ Q k => k _ H1 (Same.refl _) rfl
theorem ea_cons (P : Kps K O) {te : TE} {ta : TA} {d : DV OB} {l : List (DV OB)} (h : ED O te σ H d) (h2 : EA O ta σ H l) : EA O (tCons te ta) σ H (d :: l) := fun H1 s Q k =>
  h H1 s _ fun v H2 s2 hv => h2 H2 (Same.trans s s2) _ fun vs H3 s3 hvs => k _ H3 (Same.trans s2 s3) ⟨v, vs, rfl, P.dv s3 hv, hvs⟩
theorem len_ok {H : Hp} {l : List (DV OB)} {us : List V} (h : DvL O H l us) (hl : l.length ≤ 10000) : us.length ≤ sizeLine := by rw [h.len]; exact Nat.le_trans hl (by decide)
theorem ed_tup (P : Kps K O) {ta : TA} {l : List (DV OB)} (h : EA O ta σ H l) (hl : l.length ≤ 10000) : ED O (tTup ta) σ H (.tup l) := fun H1 s Q k =>
  h H1 s _ fun vs H2 s2 hv => ⟨len_ok hv hl, fun p np => k _ _ (Same.upd s2 np) ⟨p, vs, rfl, .inl (.inl upd_same), P.dvl (sm_upd np) hv⟩⟩
theorem ed_lst (P : Kps K O) {ta : TA} {l : List (DV OB)} (h : EA O ta σ H l) (hl : l.length ≤ 10000) : ED O (tLst ta) σ H (.lst l) := fun H1 s Q k =>
  h H1 s _ fun vs H2 s2 hv => ⟨len_ok hv hl, fun p np => k _ _ (Same.upd s2 np) ⟨p, vs, rfl, upd_same, P.dvl (sm_upd np) hv⟩⟩
theorem DvL.app {H : Hp} : ∀ {l m : List (DV OB)} {us vs : List V}, DvL O H l us → DvL O H m vs → DvL O H (l ++ m) (us ++ vs)
  | [], _, _, _, h, k => by cases h; exact k
  | x :: l, m, _, vs, ⟨u, us, e, h, p⟩, k => by subst e; exact ⟨u, us ++ vs, rfl, h, DvL.app p k⟩
/-- t + u of tuples -/
theorem ed_catT (P : Kps K O) {ta tb : TE} {l m : List (DV OB)} (h : ED O ta σ H (.tup l)) (h2 : ED O tb σ H (.tup m)) (hl : l ≠ []) (hz : l.length + m.length ≤ 10000) : ED O (tOp (rCatT K) ta tb) σ H (.tup (l ++ m)) := fun H1 s Q k =>
  h H1 s _ fun v H2 s2 hv => h2 H2 (Same.trans s s2) _ fun u H3 s3 hu => by
    obtain ⟨a, us, rfl, ha, pa⟩ := P.dv s3 hv
    obtain ⟨b, vs, rfl, hb, pb⟩ := hu
    refine ⟨a, b, us, vs, rfl, rfl, P.kk ▸ ha, P.kk ▸ hb, fun e => ?_, by rw [pa.len, pb.len]; exact Nat.le_trans hz (by decide), fun e => ?_, fun _ p np => ?_⟩
    · subst e
      cases l with
      | nil => exact hl rfl
      | cons x l => obtain ⟨_, _, e, _⟩ := pa; cases e
    · subst e
      have em : m = [] := by
        cases m with
        | nil => rfl
        | cons x l => obtain ⟨_, _, e, _⟩ := pb; cases e
      subst em
      exact k _ _ (Same.trans s2 s3) ⟨a, us, rfl, ha, by rw [List.append_nil]; exact pa⟩
    · exact k _ _ (Same.upd (Same.trans s2 s3) np) ⟨p, _, rfl, .inl (.inl upd_same), P.dvl (sm_upd np) (DvL.app pa pb)⟩
/-- xs + ys of lists -/
theorem ed_cat (P : Kps K O) {ta tb : TE} {l m : List (DV OB)} (h : ED O ta σ H (.lst l)) (h2 : ED O tb σ H (.lst m)) (hz : l.length + m.length ≤ 10000) : ED O (tOp rCat ta tb) σ H (.lst (l ++ m)) := fun H1 s Q k =>
  h H1 s _ fun v H2 s2 hv => h2 H2 (Same.trans s s2) _ fun u H3 s3 hu => by
    obtain ⟨a, us, rfl, ha, pa⟩ := P.dv s3 hv
    obtain ⟨b, vs, rfl, hb, pb⟩ := hu
    exact ⟨a, b, us, vs, rfl, rfl, ha, hb, by rw [pa.len, pb.len]; exact Nat.le_trans hz (by decide), fun p np => k _ _ (Same.upd (Same.trans s2 s3) np) ⟨p, _, rfl, upd_same, P.dvl (sm_upd np) (DvL.app pa pb)⟩⟩
theorem at_dv {H : Hp} : ∀ {l : List (DV OB)} {us : List V} {i : Nat} {d : DV OB}, DvL O H l us → l[i]? = some d → ∃ u, us[i]? = some u ∧ Dv O H d u
  | x :: l, _, 0, d, ⟨u, us, e, h, p⟩, k => by subst e; cases k; exact ⟨u, rfl, h⟩
  | x :: l, _, i + 1, d, ⟨u, us, e, h, p⟩, k => by subst e; exact at_dv (l := l) (i := i) p (by simpa using k)
theorem ed_ixT (P : Kps K O) {ta : TE} {i : Nat} {l : List (DV OB)} {d : DV OB} (h : ED O ta σ H (.tup l)) (e : l[i]? = some d) : ED O (tOp (rIxT K) ta (tC (.int (i : Int)))) σ H d := fun H1 s Q k =>
  h H1 s _ fun v H2 s2 hv => by
    obtain ⟨a, us, rfl, ha, pa⟩ := hv
    obtain ⟨u, eu, hu⟩ := at_dv pa e
    exact ⟨a, us, _, u, rfl, rfl, P.kk ▸ ha, atI_nat eu, k u H2 s2 hu⟩
theorem ed_ixL (P : Kps K O) {ta : TE} {i : Nat} {l : List (DV OB)} {d : DV OB} (h : ED O ta σ H (.lst l)) (e : l[i]? = some d) : ED O (tOp (rIxL K) ta (tC (.int (i : Int)))) σ H d := fun H1 s Q k =>
  h H1 s _ fun v H2 s2 hv => by
    obtain ⟨a, us, rfl, ha, pa⟩ := hv
    obtain ⟨u, eu, hu⟩ := at_dv pa e
    exact ⟨a, us, _, u, rfl, rfl, SqL.of ha, atI_nat eu, k u H2 s2 hu⟩
def cutD (l : List (DV OB)) (lo hi : Option Int) : List (DV OB) := (l.drop (HT.sIx l.length 0 lo)).take (HT.sIx l.length l.length hi - HT.sIx l.length 0 lo)
theorem DvL.drop {H : Hp} : ∀ {l : List (DV OB)} {us : List V} (n : Nat), DvL O H l us → DvL O H (l.drop n) (us.drop n)
  | l, us, 0, h => h
  | [], _, n + 1, h => by cases h; rfl
  | x :: l, _, n + 1, ⟨u, us, e, h, p⟩ => by subst e; exact DvL.drop n p
theorem DvL.take {H : Hp} : ∀ {l : List (DV OB)} {us : List V} (n : Nat), DvL O H l us → DvL O H (l.take n) (us.take n)
  | l, us, 0, h => rfl
  | [], _, n + 1, h => by cases h; rfl
  | x :: l, _, n + 1, ⟨u, us, e, h, p⟩ => by subst e; exact ⟨u, us.take n, rfl, h, DvL.take n p⟩
theorem DvL.cut {H : Hp} {l : List (DV OB)} {us : List V} (h : DvL O H l us) (lo hi : Option Int) : DvL O H (cutD l lo hi) (cutV us lo hi) := by
  unfold cutD cutV
  rw [h.len]
  exact DvL.take _ (DvL.drop _ h)
theorem eo_none : EO tNoPart σ H none := fun H1 _ Q k => k H1 (Same.refl _)
theorem eo_int {i : Int} : EO (tPart (tC (.int i))) σ H (some i) := fun H1 _ Q k => ⟨i, rfl, k H1 (Same.refl _)⟩
/-- t[lo:hi] -/
theorem ed_slT (P : Kps K O) {ta : TE} {tl th : TO} {lo hi : Option Int} {l : List (DV OB)} (h : ED O ta σ H (.tup l)) (h1 : EO tl σ H lo) (h2 : EO th σ H hi) : ED O (tSl (rSlA K) ta tl th) σ H (.tup (cutD l lo hi)) := fun H1 s Q k =>
  h H1 s _ fun v H2 s2 hv => h1 H2 (Same.trans s s2) _ fun H3 s3 => h2 H3 (Same.trans s (Same.trans s2 s3)) _ fun H4 s4 => by
    have s5 := Same.trans s3 s4
    obtain ⟨a, us, rfl, ha, pa⟩ := P.dv s5 hv
    refine ⟨a, us, rfl, P.kk ▸ ha, fun e => ?_, fun _ p np => ?_⟩
    · have ec : cutD l lo hi = l := by
        unfold cutD
        rw [← pa.len, e.1, e.2, List.drop_zero, pa.len, Nat.sub_zero, List.take_length]
      exact k _ _ (Same.trans s2 s5) ⟨a, us, rfl, ha, by rw [ec]; exact pa⟩
    · exact k _ _ (Same.upd (Same.trans s2 s5) np) ⟨p, _, rfl, .inl (.inl upd_same), P.dvl (sm_upd np) (DvL.cut pa lo hi)⟩
/-- xs[lo:hi] -/
theorem ed_slL (P : Kps K O) {ta : TE} {tl th : TO} {lo hi : Option Int} {l : List (DV OB)} (h : ED O ta σ H (.lst l)) (h1 : EO tl σ H lo) (h2 : EO th σ H hi) : ED O (tSl (rSlL K) ta tl th) σ H (.lst (cutD l lo hi)) := fun H1 s Q k =>
  h H1 s _ fun v H2 s2 hv => h1 H2 (Same.trans s s2) _ fun H3 s3 => h2 H3 (Same.trans s (Same.trans s2 s3)) _ fun H4 s4 => by
    have s5 := Same.trans s3 s4
    obtain ⟨a, us, rfl, ha, pa⟩ := P.dv s5 hv
    exact ⟨a, us, rfl, SqL.of ha, fun p np => k _ _ (Same.upd (Same.trans s2 s5) np) ⟨p, _, rfl, upd_same, P.dvl (sm_upd np) (DvL.cut pa lo hi)⟩⟩
/-- {} -/
theorem ed_dnew : ED O tDNewK σ H (.map [] []) := fun H1 _ Q k p np => k _ _ (sm_upd np) ⟨p, _, rfl, upd_same, List.nodup_nil, rfl, rfl⟩
/-- {'k': v}, v no object -/
theorem ed_disp1 (P : Kps K O) {te : TE} {z : Str} {d : DV OB} (h : ED O te σ H d) (lf : ∀ {H H' : Hp} {v : V}, Dv O H d v → Dv O H' d v) : ED O (tDisp [(tC (.str z), te)]) σ H (.map [z] [d]) := fun H1 s Q k p np => by
  refine h _ (Same.upd s np) _ fun v H2 s2 hv => ⟨s2 _ _ upd_same, [(.inr z, v)], rfl, by simp, ?_⟩
  have s3 : Same H1 (upd H2 p (.dK [(.inr z, v)])) := fun b o e => (upd_ne (ne_of_none e np)).trans (s2 _ _ (sm_upd np _ _ e))
  have e : mergeK [] [((.inr z : Key), v)] = [(.inr z, v)] := rfl
  rw [e]
  exact k _ _ s3 ⟨p, _, rfl, upd_same, by simp, rfl, v, [], rfl, lf hv, rfl⟩
/-- list(t) of a tuple, of a list -/
theorem ed_listT (P : Kps K O) {ta : TE} {l : List (DV OB)} (h : ED O ta σ H (.tup l)) : ED O (tCB (fun xs H Q => ∃ p ys, xs = [.ref p] ∧ (SqL K H p ys ∨ SqT K H p ys) ∧ ∀ l, H l = none → Q (.ref l) (upd H l (.lst ys))) (tCons ta tNil)) σ H (.lst l) := fun H1 s Q k =>
  h H1 s _ fun v H2 s2 hv => by
    obtain ⟨a, us, rfl, ha, pa⟩ := hv
    exact ⟨a, us, rfl, .inr (P.kk ▸ ha), fun p np => k _ _ (Same.upd s2 np) ⟨p, _, rfl, upd_same, P.dvl (sm_upd np) pa⟩⟩
theorem ed_listL (P : Kps K O) {ta : TE} {l : List (DV OB)} (h : ED O ta σ H (.lst l)) : ED O (tCB (fun xs H Q => ∃ p ys, xs = [.ref p] ∧ (SqL K H p ys ∨ SqT K H p ys) ∧ ∀ l, H l = none → Q (.ref l) (upd H l (.lst ys))) (tCons ta tNil)) σ H (.lst l) := fun H1 s Q k =>
  h H1 s _ fun v H2 s2 hv => by
    obtain ⟨a, us, rfl, ha, pa⟩ := hv
    exact ⟨a, us, rfl, .inl (SqL.of ha), fun p np => k _ _ (Same.upd s2 np) ⟨p, _, rfl, upd_same, P.dvl (sm_upd np) pa⟩⟩
/-- tuple(xs) of a list, of a tuple -/
theorem ed_tupL (P : Kps K O) {ta : TE} {l : List (DV OB)} (h : ED O ta σ H (.lst l)) : ED O (tCB (fun xs H Q => ∃ p ys, xs = [.ref p] ∧ ((SqL K H p ys ∧ ∀ l, H l = none → Q (.ref l) (upd H l (.tup ys))) ∨ (SqT K H p ys ∧ Q (.ref p) H))) (tCons ta tNil)) σ H (.tup l) := fun H1 s Q k =>
  h H1 s _ fun v H2 s2 hv => by
    obtain ⟨a, us, rfl, ha, pa⟩ := hv
    exact ⟨a, us, rfl, .inl ⟨SqL.of ha, fun p np => k _ _ (Same.upd s2 np) ⟨p, _, rfl, .inl (.inl upd_same), P.dvl (sm_upd np) pa⟩⟩⟩
theorem kps5 : Kps K (Kd.O5 K) where
  dv := fun s h => (Kd.tw5 K).dv s _ _ h
  dvl := fun s h => (Kd.tw5 K).dvl s _ _ h
  kk := rfl
/-- a comprehension whose turns give data without lists, or nothing -/
theorem lc_dat {J : It} {n : Nat} {G : Hp → Prop} {Y : Nat → Hp → V → Hp → Prop} (w : Walk J n G Y) {g : TG} {tt : TT} {te : TE} {vs : List Nat} {σ : L2.St} {H1 : Hp} {D : Addr} {Qd : Hp → Prop} (hD : H1 D = none) (out : Nat → Option Kd.D5) (hn : n ≤ 10000) (nl : ∀ i d, i < n → out i = some d → Kd.nol d = true) (hG : ∀ H, Same H1 H → G H)
    (hs : ∀ i x H H' (N : V → Hp → Prop) (M : Hp → Prop), i < n → Same H1 H → Y i H x H' → (∀ d, out i = some d → ∀ v H4, Same H H4 → Dv (Kd.O5 K) H4 d v → N v H4) → (out i = none → ∀ H4, Same H H4 → M H4) →
      g x (wipe σ vs) H' fun σ2 H2 => wipe σ2 vs = wipe σ vs ∧ tt σ2 H2 fun b H3 => if b = true then te σ2 H3 N else M H3)
    (hd : ∀ H us, Same H1 H → H D = some (.lst us) → DvL (Kd.O5 K) H ((List.range n).filterMap out) us → Qd H) :
    ∃ W : Nat → Nat → Hp → Prop, (∃ m, W 0 m (upd H1 D (.lst []))) ∧ ∀ i m H, W i m H →
      (J.stop i H ∧ Qd H) ∨ (J.go i H ∧ ∃ Nx : Hp → Prop, (∀ H', Nx H' → ∃ m', m' < m ∧ W (i + 1) m' H') ∧ ∀ x H', J.yld i H x H' → g x (wipe σ vs) H' fun σ2 H2 => wipe σ2 vs = wipe σ vs ∧ tt σ2 H2 fun b H3 =>
        if b = true then te σ2 H3 fun y H4 => ∃ acc, H4 D = some (.lst acc) ∧ acc.length < sizeLine ∧ Nx (upd H4 D (.lst (acc ++ [y]))) else Nx H3) := by
  have nlf : ∀ i, i ≤ n → Kd.nolL ((List.range i).filterMap out) = true := fun i hi => Kd.nolL_all fun d hd => by
    obtain ⟨j, hj, e⟩ := List.mem_filterMap.mp hd
    exact nl j d (by have := List.mem_range.mp hj; omega) e
  refine lc_it w (fun i H => Same H1 H ∧ ∃ us, H D = some (.lst us) ∧ DvL (Kd.O5 K) H ((List.range i).filterMap out) us) ⟨sm_upd hD, [], upd_same, rfl⟩ (fun i H _ h => hG H h.1) (fun i x H H' hi h y => ?_) (fun H h => by
    obtain ⟨s, us, e, d⟩ := h
    exact hd H us s e d)
  obtain ⟨s, us, e, d⟩ := h
  refine hs i x H H' _ _ hi s y (fun z ez v H4 k hv => ?_) (fun ez H4 k => ⟨Same.trans s k, us, k _ _ e, ?_⟩)
  · have tk : Kd.Kt H (upd H4 D (.lst (us ++ [v]))) := (Kd.Kt.same k).trans (Kd.Kt.lst (k _ _ e))
    refine ⟨us, k _ _ e, ?_, ?_, us ++ [v], upd_same, ?_⟩
    · have := List.length_filterMap_le out (List.range i)
      rw [List.length_range] at this
      rw [d.len]
      exact Nat.lt_of_le_of_lt (show _ ≤ 10000 by omega) (by decide)
    · intro b o eb
      have nb : b ≠ D := fun z => by rw [z, hD] at eb; cases eb
      rw [upd_ne nb]
      exact k b o (s b o eb)
    · rw [List.range_succ, List.filterMap_append]
      simp only [List.filterMap_cons, ez, List.filterMap_nil]
      exact Kd.DvL.snoc (Kd.Dv.kt (Kd.Kt.lst (k _ _ e)) _ _ (nl i z hi ez) hv) (Kd.DvL.kt tk _ _ (nlf i (by omega)) d)
  · rw [List.range_succ, List.filterMap_append]
    simp only [List.filterMap_cons, ez, List.filterMap_nil, List.append_nil]
    exact (kps5 (K := K)).dvl k d
theorem filterMap_range {α β : Type} (p : α → Option β) (q : Nat → Option β) : ∀ (l : List α), (∀ i a, l[i]? = some a → q i = p a) → (List.range l.length).filterMap q = l.filterMap p := fun l h => by
  induction l generalizing q with
  | nil => rfl
  | cons x l ih =>
    have h0 := h 0 x rfl
    have ih := ih (fun i => q (i + 1)) (fun i a e => h (i + 1) a (by simpa using e))
    rw [List.length_cons, List.range_succ_eq_map, List.filterMap_cons, List.filterMap_cons, h0, List.filterMap_map]
    cases e : p x with
    | none => exact ih
    | some y => exact congrArg _ ih
/-- s + t of texts -/
theorem ed_addS {ta tb : TE} {s t : Str} (h : ED O ta σ H (.str s)) (h2 : ED O tb σ H (.str t)) (hz : s.length + t.length ≤ 10000) : ED O (tOp (fun x y H Q => ∃ i j, x = .str i ∧ y = .str j ∧ i.length + j.length ≤ sizeLine ∧ Q (.str (i ++ j)) H) ta tb) σ H (.str (s ++ t)) := fun H1 s1 Q k =>
  h H1 s1 _ fun v H2 s2 hv => h2 H2 (Same.trans s1 s2) _ fun u H3 s3 hu => by
    cases hv
    cases hu
    exact ⟨s, t, rfl, rfl, Nat.le_trans hz (by decide), k _ _ (Same.trans s2 s3) rfl⟩
/-- xs * k of a list -/
theorem ed_rep (P : Kps K O) {ta : TE} {l : List (DV OB)} {n : Nat} (h : ED O ta σ H (.lst l)) (hz : l.length * n ≤ 10000) (hn : n ≤ 10000) : ED O (tOp rRep ta (tC (.int (n : Int)))) σ H (.lst (List.replicate n l).flatten) := fun H1 s Q k =>
  h H1 s _ fun v H2 s2 hv => by
    obtain ⟨a, us, rfl, ha, pa⟩ := hv
    have rep : ∀ (n : Nat) {H : Hp}, DvL O H l us → DvL O H (List.replicate n l).flatten (List.replicate n us).flatten := fun n => by
      induction n with
      | zero => intro H h; exact rfl
      | succ n ih => intro H h; rw [List.replicate_succ, List.replicate_succ, List.flatten_cons, List.flatten_cons]; exact DvL.app h (ih h)
    refine ⟨a, (n : Int), us, rfl, rfl, ha, by omega, Int.lt_of_le_of_lt (show (n : Int) ≤ 10000 by omega) (by decide), ?_, fun p np => k _ _ (Same.upd s2 np) ⟨p, _, rfl, upd_same, ?_⟩⟩
    · rw [pa.len, Int.toNat_natCast]
      exact Nat.le_trans hz (by decide)
    · rw [Int.toNat_natCast]
      exact P.dvl (sm_upd np) (rep n pa)
/-- a comprehension over a tuple: data without lists, or nothing -/
theorem ed_lcD {ta : TE} {tt : TT} {te : TE} {i : Nat} {l : List Kd.D5} {f : Kd.D5 → Option Kd.D5} (h : ED (Kd.O5 K) ta σ H (.tup l)) (hl : l.length ≤ 10000) (nl : ∀ x ∈ l, ∀ d, f x = some d → Kd.nol d = true)
    (hw : ∀ u, wipe ((wipe σ [i]).set i (some u)) [i] = wipe σ [i])
    (hs : ∀ x u H2 (N : V → Hp → Prop) (M : Hp → Prop), x ∈ l → Same H H2 → Dv (Kd.O5 K) H2 x u → (∀ d, f x = some d → ∀ v H4, Same H2 H4 → Dv (Kd.O5 K) H4 d v → N v H4) → (f x = none → ∀ H4, Same H2 H4 → M H4) →
      tt ((wipe σ [i]).set i (some u)) H2 fun b H3 => if b = true then te ((wipe σ [i]).set i (some u)) H3 N else M H3) :
    ED (Kd.O5 K) (tLc (iTup K ta) (gName i) tt te [i]) σ H (.lst (l.filterMap f)) := fun H1 s Q k =>
  h H1 s _ fun v H2 s2 hv => by
    obtain ⟨a, us, rfl, ha, pa⟩ := hv
    have ha : SqT K H2 a us := ha
    refine ⟨a, rfl, ⟨_, ha⟩, fun D nD => ?_⟩
    refine lc_dat (K := K) (walk_tup (xs := us)) nD (fun j => f (l.getD j .non)) (by rw [pa.len]; exact hl) (fun j d hj ed => ?_) (fun H3 s3 => SqT.same ha s3) (fun j x H3 H3' N M hj s3 hy q1 q2 => ?_) (fun H3 us' s3 e3 d3 => ?_)
    · have hj : j < l.length := by rw [← pa.len]; exact hj
      refine nl (l.getD j .non) ?_ d ed
      rw [List.getD_eq_getElem?_getD, List.getElem?_eq_getElem hj]
      exact List.getElem_mem hj
    · obtain ⟨rfl, ex⟩ := hy
      obtain ⟨y, e1, hx⟩ := Kd.rowAt pa ex
      have eg : l.getD j .non = y := by rw [List.getD_eq_getElem?_getD, e1]; rfl
      rw [eg] at q1 q2
      exact ⟨hw x, hs y x _ N M (List.mem_of_getElem? e1) (Same.trans s (Same.trans s2 s3)) ((kps5 (K := K)).dv s3 hx) q1 q2⟩
    · rw [pa.len, filterMap_range f _ l fun i a e => by rw [List.getD_eq_getElem?_getD, e]; rfl] at d3
      exact k _ _ (Same.trans s2 s3) ⟨D, us', rfl, e3, d3⟩
/-- a comprehension over a written text -/
theorem ed_lcS {z : Str} {te : TE} {i : Nat} {f : Nat → Kd.D5} (hz : z.cps.size ≤ 10000) (nl : ∀ j, Kd.nol (f j) = true) (hw : ∀ u, wipe ((wipe σ [i]).set i (some u)) [i] = wipe σ [i])
    (hs : ∀ j c H2, z.cps[j]? = some c → Same H H2 → ED (Kd.O5 K) te ((wipe σ [i]).set i (some (.str ⟨#[c]⟩))) H2 (f j)) :
    ED (Kd.O5 K) (tLc (iStr (tC (.str z))) (gName i) tYes te [i]) σ H (.lst ((List.range z.cps.size).map f)) := fun H1 s Q k => by
  refine ⟨z, rfl, fun D nD => ?_⟩
  refine lc_dat (K := K) (walk_str (z := z)) nD (fun j => some (f j)) hz (fun j d hj ed => by cases ed; exact nl j) (fun H3 s3 => trivial) (fun j x H3 H3' N M hj s3 hy q1 q2 => ?_) (fun H3 us' s3 e3 d3 => ?_)
  · obtain ⟨rfl, c, ec, rfl⟩ := hy
    refine ⟨hw _, ?_⟩
    exact (hs j c _ ec (Same.trans s s3)) _ (Same.refl _) _ fun v H4 s4 hv => q1 _ rfl v H4 s4 hv
  · rw [List.filterMap_eq_map'] at d3
    exact k _ _ s3 ⟨D, us', rfl, e3, d3⟩
theorem cut1 {x : DV OB} {l : List (DV OB)} : cutD (x :: l) (some 1) none = l := by
  simp [cutD, HT.sIx]
theorem cutT1 {x : DV OB} {l : List (DV OB)} : cutD (x :: l) none (some 1) = [x] := by
  simp [cutD, HT.sIx]
end Ed

set_option Elab.async false
set_option linter.all false
set_option maxRecDepth 100000
set_option maxHeartbeats 4000000
/-! lists of the same values; a block read otherwise -/
namespace Kd
open PySem PySem.Spec PyProof.Rows L2 Dq Vl Pf Ed
/-- no number with a point, no bytes -/
def noF : V → Bool
  | .byt _ => false
  | .flt _ => false
  | _ => true
theorem eqAt_self {A : Around} {s : Shared} {v : V} {u w : Value} (h : noF v = true) (r : RelV v u) (k : RelV v w) : SeqAt.EqAt A s u w true := by
  cases v with
  | non => cases r; cases k; exact SeqAt.EqAt.same _
  | bl b => cases r; cases k; exact SeqAt.EqAt.same _
  | int i =>
    obtain ⟨t, rfl⟩ := r
    obtain ⟨t', rfl⟩ := k
    have := SeqAt.EqAt.int_int (A := A) (s := s) i t i t'
    rwa [beq_self_eq_true] at this
  | str i =>
    obtain ⟨t, rfl⟩ := r
    obtain ⟨t', rfl⟩ := k
    have := SeqAt.EqAt.str_str (A := A) (s := s) i t i t'
    rwa [beq_self_eq_true] at this
  | byt b => cases h
  | flt b => cases h
  | ref a => cases r; cases k; exact SeqAt.EqAt.same _
  | ty n => cases r; cases k; exact SeqAt.EqAt.same _
def rNeSame (K : PySem.W.Frag) : R2 := fun x y H Q => ∃ p q xs, x = .ref p ∧ y = .ref q ∧ SqL K H p xs ∧ SqL K H q xs ∧ xs.all noF = true ∧ Q (.bl false) H
/-- xs != ys: lists of the same values -/
theorem op_neSame {X : Cx} (hu : X.A.units < cLine) : OpR X (compareOp .NotEq) (rNeSame X.K) := by
  intro pins s σ H x y v u Q I rx ry h
  obtain ⟨p, q, xs, rfl, rfl, hp, hq, hf, k⟩ := h
  cases rx
  cases ry
  obtain ⟨its, r, ht, _⟩ := I.list hp
  obtain ⟨its2, r2, ht2, _⟩ := I.list hq
  have e1 := r.length
  have e2 := r2.length
  have he : ∀ j (h1 : j < its.toArray.size) (h2 : j < its2.toArray.size), SeqAt.EqAt X.A.in1 s its.toArray[j] its2.toArray[j] true := fun j h1 h2 => by
    have hj : j < xs.length := by simp at h1; omega
    obtain ⟨a, ea, ra⟩ := r.get (i := j) (List.getElem?_eq_getElem hj)
    obtain ⟨b, eb, rb⟩ := r2.get (i := j) (List.getElem?_eq_getElem hj)
    have := eqAt_self (A := X.A.in1) (s := s) (List.all_eq_true.mp hf _ (List.getElem_mem hj)) ra rb
    rw [List.getElem?_eq_getElem (by simp at h1; omega)] at ea
    rw [List.getElem?_eq_getElem (by simp at h2; omega)] at eb
    cases ea
    cases eb
    simpa using this
  have z := SeqAt.RcNeAt.lists (A := X.A) ht.isList ht2.isList (by simp; omega) hu (e := fun _ => true) he
  rw [show (List.range its.toArray.size).all (fun _ => true) = true from List.all_eq_true.mpr fun _ _ => rfl] at z
  exact z X.prog X.w X.xe _ ⟨.bl false, H, I, rfl, k⟩
/-- a block whose reading is told otherwise -/
theorem pss_by {X : Cx} {b : List Stmt} {t u : TS} (h : PSs X b t) (k : ∀ D σ H, u D σ H → t D σ H) : PSs X b u := ⟨fun pins s σ H D I q => h.run pins s σ H D I (k D σ H q)⟩
end Kd

set_option Elab.async false
set_option linter.all false
set_option maxRecDepth 100000
set_option maxHeartbeats 4000000
/-! what an expression gives, by a relation; what a test tells; statements stepped through -/
namespace Ed
open PySem PySem.Spec PyProof.Rows L2 Dq Vl
def EP (te : TE) (σ : L2.St) (H : Hp) (R : V → Hp → Prop) : Prop := ∀ H1, Same H H1 → ∀ Q : VK, (∀ v H2, Same H1 H2 → R v H2 → Q v H2) → te σ H1 Q
def ET (tt : TT) (σ : L2.St) (H : Hp) (b : Bool) : Prop := ∀ H1, Same H H1 → ∀ Q : Bool → Hp → Prop, (∀ H2, Same H1 H2 → Q b H2) → tt σ H1 Q
variable {OB : Type} {O : Obs OB} {K : PySem.W.Frag} {σ : L2.St} {H : Hp} {te ta tb : TE} {tt tu : TT} {R R' : V → Hp → Prop} {b c : Bool}
theorem EP.run (h : EP te σ H R) {Q : VK} (k : ∀ v H2, Same H H2 → R v H2 → Q v H2) : te σ H Q := h H (Same.refl H) Q k
theorem ET.run (h : ET tt σ H b) {Q : Bool → Hp → Prop} (k : ∀ H2, Same H H2 → Q b H2) : tt σ H Q := h H (Same.refl H) Q k
theorem ED.ep {d : DV OB} (h : ED O te σ H d) : EP te σ H fun v H => Dv O H d v := h
theorem EP.ed {d : DV OB} (h : EP te σ H fun v H => Dv O H d v) : ED O te σ H d := h
theorem EP.imp (h : EP te σ H R) (k : ∀ v H2, Same H H2 → R v H2 → R' v H2) : EP te σ H R' := fun H1 s Q q => h H1 s Q fun v H2 s2 r => q v H2 s2 (k v H2 (Same.trans s s2) r)
/-- name = e, then the rest -/
theorem EP.seq {u : TS} {D : Ends} {i : Nat} (h : EP te σ H R) (k : ∀ v H2, Same H H2 → R v H2 → u D (σ.set i (some v)) H2) : tSeq (tAsg te (gName i)) u D σ H := h.run k
theorem EP.ret {D : Ends} (h : EP te σ H R) (k : ∀ v H2, Same H H2 → R v H2 → D.rt v H2) : tRet te D σ H := h.run k
/-- a, b = e1, e2 -/
theorem EP.par {u : TS} {D : Ends} {i j : Nat} (h : EP ta σ H R) (h2 : EP tb σ H R') (st : ∀ {H H' : Hp} {v : V}, Same H H' → R v H → R v H') (k : ∀ v w H2, Same H H2 → R v H2 → R' w H2 → u D ((σ.set i (some v)).set j (some w)) H2) : tSeq (tPar i j (tCons ta (tCons tb tNil))) u D σ H :=
  h.run fun v H1 s1 r => h2 H1 s1 _ fun w H2 s2 r2 => ⟨v, w, rfl, k v w H2 (Same.trans s1 s2) (st s2 r) r2⟩
theorem ep_pv {i : Nat} {v : V} (e : σ[i]? = some (some v)) (h : ∀ H2, Same H H2 → R v H2) : EP (tVar i) σ H R := fun H1 s Q k => ⟨v, e, k v H1 (Same.refl _) (h H1 s)⟩
/-- a test that is not met, then the rest -/
theorem ET.skip {t u : TS} {D : Ends} (h : ET tt σ H false) (k : ∀ H2, Same H H2 → u D σ H2) : tSeq (tIfS tt t tNext) u D σ H := h.run fun H2 s => iteN rfl (k H2 s)
theorem ET.skip1 {t : TS} {D : Ends} (h : ET tt σ H false) (k : ∀ H2, Same H H2 → D.nx σ H2) : tIfS tt t tNext D σ H := h.run fun H2 s => iteN rfl (k H2 s)
theorem et_not (h : ET tt σ H b) : ET (tNot tt) σ H (!b) := fun H1 s Q k => h H1 s _ fun H2 s2 => k H2 s2
theorem et_or (h : ET tt σ H false) (h2 : ET tu σ H c) : ET (tOr tt tu) σ H c := fun H1 s Q k => h H1 s _ fun H2 s2 => iteN rfl (h2 H2 (Same.trans s s2) _ fun H3 s3 => k H3 (Same.trans s2 s3))
theorem et_and (h : ET tt σ H true) (h2 : ET tu σ H c) : ET (tAnd tt tu) σ H c := fun H1 s Q k => h H1 s _ fun H2 s2 => iteC rfl (h2 H2 (Same.trans s s2) _ fun H3 s3 => k H3 (Same.trans s2 s3))
theorem et_andF (h : ET tt σ H false) : ET (tAnd tt tu) σ H false := fun H1 s Q k => h H1 s _ fun H2 s2 => iteN rfl (k H2 s2)
/-- a test by a value -/
theorem et_val (h : EP te σ H fun v _ => v = .bl b) : ET (tTest te) σ H b := fun H1 s Q k => h H1 s _ fun v H2 s2 e => ⟨b, e, k H2 s2⟩
theorem ep_if {d : DV OB} (h : ET tt σ H b) (h1 : b = true → ED O ta σ H d) (h2 : b = false → ED O tb σ H d) : ED O (tIf tt ta tb) σ H d := fun H1 s Q k => h H1 s _ fun H2 s2 => by
  cases b with
  | true => exact iteC rfl (h1 rfl H2 (Same.trans s s2) Q fun v H3 s3 hv => k v H3 (Same.trans s2 s3) hv)
  | false => exact iteN rfl (h2 rfl H2 (Same.trans s s2) Q fun v H3 s3 hv => k v H3 (Same.trans s2 s3) hv)
theorem ed_not {b : Bool} (h : ED O te σ H (.bl b)) : ED O (tNotV te) σ H (.bl (!b)) := fun H1 s Q k => h H1 s _ fun v H2 s2 e => ⟨b, e, k _ H2 s2 rfl⟩
/-- x is None -/
theorem et_isN {d : DV OB} (nn : ∀ {H : Hp} {v : V}, Dv O H d v → decide (v = V.non) = b) (h : ED O te σ H d) : ET (tTest (tOp (fun x y H Q => y = .non ∧ Q (.bl (decide (x = .non))) H) te (tC .non))) σ H b := fun H1 s Q k =>
  h H1 s _ fun v H2 s2 hv => ⟨rfl, b, by rw [nn hv], k H2 s2⟩
/-- the last item of a list -/
theorem ed_ixLast (P : Kps K O) {l : List (DV OB)} {d : DV OB} (h : ED O ta σ H (.lst (l ++ [d]))) : ED O (tOp (rIxL K) ta (tUn (rU fun i => .int (-i)) (tC (.int 1)))) σ H d := fun H1 s Q k =>
  h H1 s _ fun v H2 s2 hv => by
    obtain ⟨a, us, rfl, ha, pa⟩ := hv
    have e := pa.len
    rw [List.length_append, List.length_singleton] at e
    have hu : us = us.take l.length ++ us.drop l.length := (List.take_append_drop _ _).symm
    have p2 := Ed.DvL.drop l.length pa
    rw [List.drop_left] at p2
    obtain ⟨u, r, e2, hd, e3⟩ := p2
    cases (show r = [] from e3)
    rw [e2] at hu
    refine ⟨1, rfl, a, us, -1, u, rfl, rfl, SqL.of ha, ?_, k u H2 s2 hd⟩
    rw [hu]
    exact atI_last _ _
/-- leaves held against leaves -/
theorem et_neD {l m : List (DV OB)} (kk : O.K = K) (el : l.all Kd.lfo = true) (em : m.all Kd.lfo = true) (h : ED O ta σ H (.tup l)) (h2 : ED O tb σ H (.tup m)) (st : ∀ {H H' : Hp} {v : V}, Same H H' → Dv O H (.tup l) v → Dv O H' (.tup l) v)
    (s1 : SeqAt.shaped (.tuple (l.map Kd.py)) = true) (s2 : SeqAt.shaped (.tuple (m.map Kd.py)) = true) (e : (!PyData.eqv (.tuple (l.map Kd.py)) (.tuple (m.map Kd.py))) = b) : ET (tTest (tOp (rNeD K) ta tb)) σ H b := fun H1 s Q k =>
  h H1 s _ fun v H2 s3 hv => h2 H2 (Same.trans s s3) _ fun u H3 s4 hu => ⟨_, _, Kd.dp_row kk el (st s4 hv), Kd.dp_row kk em hu, s1, s2, b, by rw [e], k H3 (Same.trans s3 s4)⟩
theorem et_eqD {l m : List (DV OB)} (kk : O.K = K) (el : l.all Kd.lfo = true) (em : m.all Kd.lfo = true) (h : ED O ta σ H (.tup l)) (h2 : ED O tb σ H (.tup m)) (st : ∀ {H H' : Hp} {v : V}, Same H H' → Dv O H (.tup l) v → Dv O H' (.tup l) v)
    (s1 : SeqAt.shaped (.tuple (l.map Kd.py)) = true) (s2 : SeqAt.shaped (.tuple (m.map Kd.py)) = true) (e : PyData.eqv (.tuple (l.map Kd.py)) (.tuple (m.map Kd.py)) = b) : ET (tTest (tOp (rEqD K) ta tb)) σ H b := fun H1 s Q k =>
  h H1 s _ fun v H2 s3 hv => h2 H2 (Same.trans s s3) _ fun u H3 s4 hu => ⟨_, _, Kd.dp_row kk el (st s4 hv), Kd.dp_row kk em hu, s1, s2, b, by rw [e], k H3 (Same.trans s3 s4)⟩
/-- a comprehension over a text that is reckoned -/
theorem ed_lcZ {z : Str} {ts te : TE} {i : Nat} {f : Nat → Kd.D5} (ez : EP ts σ H fun v _ => v = .str z) (hz : z.cps.size ≤ 10000) (nl : ∀ j, Kd.nol (f j) = true) (hw : ∀ u, wipe ((wipe σ [i]).set i (some u)) [i] = wipe σ [i])
    (hs : ∀ j c H2, z.cps[j]? = some c → Same H H2 → ED (Kd.O5 K) te ((wipe σ [i]).set i (some (.str ⟨#[c]⟩))) H2 (f j)) :
    ED (Kd.O5 K) (tLc (iStr ts) (gName i) tYes te [i]) σ H (.lst ((List.range z.cps.size).map f)) := fun H1 s Q k => by
  refine ez H1 s _ fun v H1' s' ev => ⟨z, ev, fun D nD => ?_⟩
  refine lc_dat (K := K) (walk_str (z := z)) nD (fun j => some (f j)) hz (fun j d hj ed => by cases ed; exact nl j) (fun H3 s3 => trivial) (fun j x H3 H3' N M hj s3 hy q1 q2 => ?_) (fun H3 us' s3 e3 d3 => ?_)
  · obtain ⟨rfl, c, ec, rfl⟩ := hy
    refine ⟨hw _, ?_⟩
    exact (hs j c _ ec (Same.trans s (Same.trans s' s3))) _ (Same.refl _) _ fun v H4 s4 hv => q1 _ rfl v H4 s4 hv
  · rw [List.filterMap_eq_map'] at d3
    exact k _ _ (Same.trans s' s3) ⟨D, us', rfl, e3, d3⟩
end Ed

set_option Elab.async false
set_option linter.all false
set_option maxRecDepth 100000
set_option maxHeartbeats 4000000
/-! more of what an expression gives -/
namespace Ed
open PySem PySem.Spec PyProof.Rows L2 Dq Vl
variable {OB : Type} {O : Obs OB} {K : PySem.W.Frag} {σ : L2.St} {H : Hp} {te ta tb : TE} {tt tu : TT} {R R' : V → Hp → Prop} {b c : Bool}
theorem ET.asB (h : ET (tTest te) σ H b) : ET (tB te) σ H b := h
/-- an item by a number that a name holds -/
theorem ed_ixLv (P : Kps K O) {i : Nat} {l : List (DV OB)} {d : DV OB} (h : ED O ta σ H (.lst l)) (h2 : EP tb σ H fun v _ => v = .int (i : Int)) (e : l[i]? = some d) : ED O (tOp (rIxL K) ta tb) σ H d := fun H1 s Q k =>
  h H1 s _ fun v H2 s2 hv => h2 H2 (Same.trans s s2) _ fun u H3 s3 hu => by
    obtain ⟨a, us, rfl, ha, pa⟩ := P.dv s3 hv
    cases hu
    obtain ⟨w, eu, hw⟩ := at_dv pa e
    exact ⟨a, us, _, w, rfl, rfl, SqL.of ha, atI_nat eu, k w H3 (Same.trans s2 s3) hw⟩
theorem ED.asg {d : DV OB} {g : TG} {u : TS} {D : Ends} (h : ED O te σ H d) (k : ∀ v H2, Same H H2 → Dv O H2 d v → g v σ H2 (u D)) : tSeq (tAsg te g) u D σ H := h.run k
theorem ed_ifD {d1 d2 : DV OB} (h : ET tt σ H b) (h1 : ED O ta σ H d1) (h2 : ED O tb σ H d2) : ED O (tIf tt ta tb) σ H (if b = true then d1 else d2) := by
  cases b with
  | true => exact ep_if h (fun _ => h1) (fun e => nomatch e)
  | false => exact ep_if h (fun e => nomatch e) (fun _ => h2)
abbrev rLen (K : PySem.W.Frag) : List V → Hp → VK → Prop := fun xs H Q => ∃ p ys, xs = [.ref p] ∧ (SqL K H p ys ∨ SqT K H p ys) ∧ Q (.int ys.length) H
theorem ep_lenT (P : Kps K O) {l : List (DV OB)} (h : ED O ta σ H (.tup l)) : EP (tCB (rLen K) (tCons ta tNil)) σ H fun v _ => v = .int (l.length : Int) := fun H1 s Q k =>
  h H1 s _ fun v H2 s2 hv => by
    obtain ⟨a, us, rfl, ha, pa⟩ := hv
    exact ⟨a, us, rfl, .inr (P.kk ▸ ha), k _ H2 s2 (by rw [pa.len])⟩
theorem ep_lenL (P : Kps K O) {l : List (DV OB)} (h : ED O ta σ H (.lst l)) : EP (tCB (rLen K) (tCons ta tNil)) σ H fun v _ => v = .int (l.length : Int) := fun H1 s Q k =>
  h H1 s _ fun v H2 s2 hv => by
    obtain ⟨a, us, rfl, ha, pa⟩ := hv
    exact ⟨a, us, rfl, .inl (SqL.of ha), k _ H2 s2 (by rw [pa.len])⟩
theorem ep_int {i : Int} : EP (tC (.int i)) σ H fun v _ => v = .int i := fun H1 s Q k => k _ H1 (Same.refl _) rfl
theorem ep_str {i : Str} : EP (tC (.str i)) σ H fun v _ => v = .str i := fun H1 s Q k => k _ H1 (Same.refl _) rfl
theorem ep_sub {i j : Int} (h : EP ta σ H fun v _ => v = .int i) (h2 : EP tb σ H fun v _ => v = .int j) : EP (tOp (rI0 fun i j => .int (i - j)) ta tb) σ H fun v _ => v = .int (i - j) := fun H1 s Q k =>
  h H1 s _ fun v H2 s2 e => h2 H2 (Same.trans s s2) _ fun u H3 s3 e2 => ⟨i, j, e, e2, k _ H3 (Same.trans s2 s3) rfl⟩
/-- s[:i] of a text -/
theorem ep_cutS {z : Str} {i : Int} (hz : z.length ≤ 10000) (h : EP ta σ H fun v _ => v = .str z) (h2 : EP tb σ H fun v _ => v = .int i) : EP (tSl rSlS ta tNoPart (tPart tb)) σ H fun v _ => v = .str (cutS z none (some i)) := fun H1 s Q k =>
  h H1 s _ fun v H2 s2 e => h2 H2 (Same.trans s s2) _ fun u H3 s3 e2 => ⟨i, e2, z, e, Nat.le_trans hz (by decide), k _ H3 (Same.trans s2 s3) rfl⟩
theorem cutS_size {z : Str} {n : Nat} (h : n ≤ z.length) : (cutS z none (some (n : Int))).cps.size = n := by
  unfold cutS
  rw [HT.sIx_none, HT.sIx_nat, List.drop_zero, Nat.sub_zero, List.size_toArray, List.length_take, Array.length_toList]
  show min (min n z.length) z.length = n
  omega
end Ed

set_option Elab.async false
set_option linter.all false
set_option maxRecDepth 100000
set_option maxHeartbeats 4000000
/-! truth values as values; is_integer, is_tag -/
namespace Ed
open PySem PySem.Spec PyProof.Rows L2 Dq Vl Kd
variable {K : PySem.W.Frag} {σ : L2.St} {H : Hp} {te ta tb : TE} {b c : Bool}
abbrev EB (te : TE) (σ : L2.St) (H : Hp) (b : Bool) : Prop := EP te σ H fun v _ => v = .bl b
theorem eb_and (h : EB ta σ H b) (h2 : b = true → EB tb σ H c) : EB (tAndV ta tb) σ H (b && c) := fun H1 s Q k => h H1 s _ fun v H2 s2 e => ⟨b, e, by
  cases b with
  | true => exact iteC rfl (h2 rfl H2 (Same.trans s s2) Q fun v H3 s3 e => k v H3 (Same.trans s2 s3) e)
  | false => exact iteN rfl (k _ H2 s2 rfl)⟩
theorem eb_or (h : EB ta σ H b) (h2 : b = false → EB tb σ H c) : EB (tOrV ta tb) σ H (b || c) := fun H1 s Q k => h H1 s _ fun v H2 s2 e => ⟨b, e, by
  cases b with
  | true => exact iteC rfl (k _ H2 s2 rfl)
  | false => exact iteN rfl (h2 rfl H2 (Same.trans s s2) Q fun v H3 s3 e => k v H3 (Same.trans s2 s3) e)⟩
theorem eb_not (h : EB te σ H b) : EB (tNotV te) σ H (!b) := fun H1 s Q k => h H1 s _ fun v H2 s2 e => ⟨b, e, k _ H2 s2 rfl⟩
theorem eb_is6 {T : String} {d : D5} (h : ED (O5 K) ta σ H d) : EB (tCB (fun xs H Q => ∃ v x, xs = [v, .ty T] ∧ Dv (O5 K) H x v ∧ Q (.bl (isT6 T x)) H) (tCons ta (tCons (tC (.ty T)) tNil))) σ H (isT6 T d) := fun H1 s Q k =>
  h H1 s _ fun v H2 s2 hv => ⟨v, d, rfl, hv, k _ H2 s2 rfl⟩
/-- a scalar by == -/
theorem eb_eq {x y : V} (h : EP ta σ H fun v _ => v = x) (h2 : EP tb σ H fun v _ => v = y) (e : scal x y = true) : EB (tOp rEq ta tb) σ H (decide (x = y)) := fun H1 s Q k =>
  h H1 s _ fun v H2 s2 e1 => h2 H2 (Same.trans s s2) _ fun u H3 s3 e2 => by subst e1 e2; exact ⟨e, k _ H3 (Same.trans s2 s3) rfl⟩
theorem eb_ints {f : Int → Int → Bool} {i j : Int} (h : EP ta σ H fun v _ => v = .int i) (h2 : EP tb σ H fun v _ => v = .int j) : EB (tOp (rI0 fun i j => .bl (f i j)) ta tb) σ H (f i j) := fun H1 s Q k =>
  h H1 s _ fun v H2 s2 e1 => h2 H2 (Same.trans s s2) _ fun u H3 s3 e2 => ⟨i, j, e1, e2, k _ H3 (Same.trans s2 s3) rfl⟩
theorem et_b (h : EB te σ H b) : ET (tB te) σ H b := fun H1 s Q k => h H1 s _ fun v H2 s2 e => ⟨b, e, k H2 s2⟩
theorem et_t (h : EB te σ H b) : ET (tTest te) σ H b := fun H1 s Q k => h H1 s _ fun v H2 s2 e => ⟨b, e, k H2 s2⟩
theorem ep_v {i : Nat} {v : V} (e : σ[i]? = some (some v)) : EP (tVar i) σ H fun u _ => u = v := ep_pv e fun _ _ => rfl
theorem ep_int2 {i : Int} : EP (tC (.int i)) σ H fun v _ => v = .int i := fun H1 s Q k => k _ H1 (Same.refl _) rfl
end Ed
namespace Kd
open PySem PySem.Spec PyProof.Rows L2 Dq Vl Pf Ed
structure TxtV (mg : Str → Option Value) : Prop where
  isi : mg "isinstance" = none
  str : mg "str" = none
  tuple : mg "tuple" = none
  dict : mg "dict" = none
  bool : mg "bool" = none
  int : mg "int" = none
  len : mg "len" = none
  all : mg "all" = none
  list : mg "list" = none
  sorted : mg "sorted" = none
abbrev sInt : Stmt := tp 15
theorem scInt : FnScope ["thing"] ["thing"] (defScope sInt) := ⟨rfl, rfl, rfl, by decide +kernel, rfl, by decide +kernel, by decide +kernel⟩
def intD : D5 → Bool
  | .int _ => true
  | _ => false
theorem int_is (d : D5) : (isT6 "int" d && !isT6 "bool" d) = intD d := by cases d <;> rfl
abbrev spV (K : PySem.W.Frag) (ok f : D5 → Bool) : Sp := spB (O5 K) ok f
section
variable {P : Program} {w : World} {K : PySem.W.Frag} {mg : Str → Option Value} {base : Heap}
theorem ok_int {f : Addr} {fd : FuncData} (F : Fun K "is_integer" "is_integer" sInt f fd) (T : TxtV mg) : FnOk P w K mg base CX0 1 f fd ["thing"] (spV K (fun _ => true) intD) := by
  refine F.ok scInt (fun vs H Q E h => ?_) (fun cdv A outer s H vs Q E hr h => ?_)
  · obtain ⟨v, d, rfl, _⟩ := h
    rfl
  · obtain ⟨v, d, rfl, hd, _, q⟩ := h
    refine ⟨_, pss_one (ps_ret (pe_and (pe_callB (call_is6 (T := "int") (by simp)) (by rfl) T.isi (by decide +kernel) (pa_cons (pv 0) (pa_cons (pe_bltn (v := .ty "int") (by rfl) T.int (by decide +kernel) rfl) pa_nil)))
      (pe_one (pe_not (pe_callB (call_is6 (T := "bool") (by simp)) (by rfl) T.isi (by decide +kernel) (pa_cons (pv 0) (pa_cons (pe_bltn (v := .ty "bool") (by rfl) T.bool (by decide +kernel) rfl) pa_nil))))))), ?_⟩
    have P := kps5 (K := K)
    have h0 : ∀ {σ : L2.St}, σ[0]? = some (some v) → ED (O5 K) (tVar 0) σ H d := fun e => ed_pv P e hd
    exact EP.ret (eb_and (eb_is6 (h0 rfl)) fun _ => eb_not (eb_is6 (h0 rfl))) fun u H2 s2 e => by
      rw [e, int_is]
      exact q H2 s2
end
end Kd

set_option Elab.async false
set_option linter.all false
set_option maxRecDepth 100000
set_option maxHeartbeats 4000000
/-! is_tag, _as_chosen, _tags_in -/
namespace Ed
open PySem PySem.Spec PyProof.Rows L2 Dq Vl Kd
variable {K : PySem.W.Frag} {σ : L2.St} {H : Hp} {te ta tb : TE} {tt tu : TT} {b c : Bool}
theorem ET.ite {t u : TS} {D : Ends} (h : ET tt σ H b) (h1 : b = true → ∀ H2, Same H H2 → t { D with nx := u D } σ H2) (h2 : b = false → ∀ H2, Same H H2 → u D σ H2) : tSeq (tIfS tt t tNext) u D σ H := h.run fun H2 s => by
  cases b with
  | true => exact iteC rfl (h1 rfl H2 s)
  | false => exact iteN rfl (h2 rfl H2 s)
theorem et_orI (h : ET tt σ H b) (h2 : b = false → ET tu σ H c) : ET (tOr tt tu) σ H (b || c) := fun H1 s Q k => h H1 s _ fun H2 s2 => by
  cases b with
  | true => exact iteC rfl (k H2 s2)
  | false => exact iteN rfl (h2 rfl H2 (Same.trans s s2) _ fun H3 s3 => k H3 (Same.trans s2 s3))
theorem et_andI (h : ET tt σ H b) (h2 : b = true → ET tu σ H c) : ET (tAnd tt tu) σ H (b && c) := fun H1 s Q k => h H1 s _ fun H2 s2 => by
  cases b with
  | true => exact iteC rfl (h2 rfl H2 (Same.trans s s2) _ fun H3 s3 => k H3 (Same.trans s2 s3))
  | false => exact iteN rfl (k H2 s2)
/-- len(xs) != n -/
theorem et_neI {i j : Int} (h : EP ta σ H fun v _ => v = .int i) (h2 : EP tb σ H fun v _ => v = .int j) : ET (tTest (tOp rNe ta tb)) σ H (!decide (i = j)) := fun H1 s Q k =>
  h H1 s _ fun v H2 s2 e1 => h2 H2 (Same.trans s s2) _ fun u H3 s3 e2 => by
    subst e1 e2
    exact ⟨rfl, _, rfl, by
      have := k H3 (Same.trans s2 s3)
      rwa [show decide (V.int i = V.int j) = decide (i = j) from decide_eq_decide.mpr ⟨fun e => V.int.inj e, fun e => by rw [e]⟩]⟩
end Ed
namespace Kd
open PySem PySem.Spec PyProof.Rows L2 Dq Vl Pf Ed
abbrev sTag : Stmt := tp 18
abbrev NTag : List Str := ["thing", "mark", "kind", "number"]
theorem scTag : FnScope NTag ["thing"] (defScope sTag) := ⟨rfl, rfl, rfl, by decide +kernel, rfl, by decide +kernel, by decide +kernel⟩
def numD : D5 → Bool
  | .int n => decide (1 ≤ n)
  | _ => false
/-- ("#", a name, a whole number from 1 on) -/
def tagD : D5 → Bool
  | .tup [.str m, k, n] => decide (m = "#") && (nmD k && numD n)
  | _ => false
def okTag : D5 → Bool
  | .tup [.str _, k, _] => shD k
  | .tup [_, _, _] => false
  | _ => true
section
variable {P : Program} {w : World} {K : PySem.W.Frag} {mg : Str → Option Value} {base : Heap}
theorem ok_tag {f fN fI : Addr} {fd fdN fdI : FuncData} (F : Fun K "is_tag" "is_tag" sTag f fd) (T : TxtV mg) (DN : Def P w K mg base 1 "is_name" fN fdN ["thing"] (spB (O5 K) shD nmD)) (DI : Def P w K mg base 1 "is_integer" fI fdI ["thing"] (spV K (fun _ => true) intD)) :
    FnOk P w K mg base CX0 2 f fd ["thing"] (spV K okTag tagD) := by
  refine F.ok scTag (fun vs H Q E h => ?_) (fun cdv A outer s H vs Q E hr h => ?_)
  · obtain ⟨v, d, rfl, _⟩ := h
    rfl
  · obtain ⟨v, d, rfl, hd, ok, q⟩ := h
    refine ⟨_, pss_cons (ps_if (PW.pt (pw_or (pt_not (pt_val (pe_callB (call_is6 (T := "tuple") (by simp)) (by rfl) T.isi (by decide +kernel) (pa_cons (pv 0) (pa_cons (pe_bltn (v := .ty "tuple") (by rfl) T.tuple (by decide +kernel) rfl) pa_nil)))))
        (pw_or1 (pt_cmpR op_ne (pe_callB call_len_seq (by rfl) T.len PySem.boot_len (pa_cons (pv 0) pa_nil)) pe_int (nomark _))))) (pss_one (ps_ret pe_bl)) pss_nil)
      (pss_cons (ps_asg (pv 0) (pg_tup rfl (pgs_cons (pg_name (i := 1) scTag.nd rfl (Or.inl rfl)) (pgs_cons (pg_name (i := 2) scTag.nd rfl (Or.inl rfl)) (pgs_cons (pg_name (i := 3) scTag.nd rfl (Or.inl rfl)) pgs_nil)))))
      (pss_one (ps_ret (pe_and (pe_cmpR op_eq (pv 1) pe_str (nomark _)) (pe_and (pe_call DN.ok (hr.mono (by omega)) rfl DN.g DN.kp DN.b .nil pass0 (pa_cons (pv 2) pa_nil)) (pe_and (pe_call DI.ok (hr.mono (by omega)) rfl DI.g DI.kp DI.b .nil pass0 (pa_cons (pv 3) pa_nil)) (pe_one (pe_cmpR op_ge (pv 3) pe_int (nomark _))))))))), ?_⟩
    have P := kps5 (K := K)
    have h0 : ∀ {σ : L2.St}, σ[0]? = some (some v) → ED (O5 K) (tVar 0) σ H d := fun e => ed_pv P e hd
    have no : tagD d = false → ∀ H2, Same H H2 → Q (.bl false) H2 := fun e H2 s2 => e ▸ q H2 s2
    obtain ⟨l, rfl⟩ | ht : (∃ l, d = .tup l) ∨ isT6 "tuple" d = false := by
      cases d with
      | tup l => exact .inl ⟨l, rfl⟩
      | _ => exact .inr rfl
    case inr =>
      have : tagD d = false := by
        cases d with
        | tup l => cases ht
        | _ => rfl
      refine ET.ite (b := true) (by
        have := et_not (et_b (eb_is6 (T := "tuple") (h0 (σ := [some v, none, none, none]) rfl)))
        rw [ht] at this
        exact et_orI (c := false) this fun e => nomatch e) (fun _ H2 s2 => no this H2 s2) (fun e => nomatch e)
    by_cases el : l.length = 3
    case neg =>
      have : tagD (.tup l) = false := by
        match l, el with
        | [], _ => rfl
        | [m], _ => cases m <;> rfl
        | [m, _], _ => cases m <;> rfl
        | [_, _, _], el => exact absurd rfl el
        | m :: _ :: _ :: _ :: _, _ => cases m <;> rfl
      refine ET.ite (b := true) (by
        have h1 := et_not (et_b (eb_is6 (T := "tuple") (h0 (σ := [some v, none, none, none]) rfl)))
        have h2 := et_neI (ep_lenT P (h0 (σ := [some v, none, none, none]) rfl)) (ep_int2 (i := 3))
        rw [decide_eq_false (fun z => el (by omega))] at h2
        exact et_orI (b := false) h1 fun _ => h2) (fun _ H2 s2 => no this H2 s2) (fun e => nomatch e)
    obtain ⟨m, k, n, rfl⟩ : ∃ m k n, l = [m, k, n] := by
      match l, el with
      | [m, k, n], _ => exact ⟨m, k, n, rfl⟩
    obtain ⟨z, rfl⟩ : ∃ z, m = .str z := by
      cases m with
      | str z => exact ⟨z, rfl⟩
      | _ => cases ok
    refine ET.ite (b := false) (by
        have h1 := et_not (et_b (eb_is6 (T := "tuple") (h0 (σ := [some v, none, none, none]) rfl)))
        have h2 := et_neI (ep_lenT P (h0 (σ := [some v, none, none, none]) rfl)) (ep_int2 (i := 3))
        exact et_orI (b := false) h1 fun _ => h2) (fun e => nomatch e) fun _ H1 s1 => ?_
    obtain ⟨a, us, rfl, ha, u1, r1, rfl, h1, u2, r2, rfl, h2, u3, r3, rfl, h3, e3⟩ := P.dv s1 hd
    cases (show r3 = [] from e3)
    refine ⟨_, rfl, a, _, rfl, ha, rfl, _, _, rfl, _, _, rfl, _, _, rfl, rfl, ?_⟩
    cases h1
    have hnm : ∀ {σ : L2.St}, σ[2]? = some (some u2) → EB (tCall (spB (O5 K) shD nmD) [] E0 (tCons (tVar 2) tNil)) σ H1 (nmD k) := fun e H2 s2 Q2 q2 => ⟨_, e, u2, k, rfl, P.dv s2 h2, ok, fun H3 s3 => q2 _ H3 s3 rfl⟩
    have hin : ∀ {σ : L2.St}, σ[3]? = some (some u3) → EB (tCall (spV K (fun _ => true) intD) [] E0 (tCons (tVar 3) tNil)) σ H1 (intD n) := fun e H2 s2 Q2 q2 => ⟨_, e, u3, n, rfl, P.dv s2 h3, rfl, fun H3 s3 => q2 _ H3 s3 rfl⟩
    refine EP.ret (eb_and (c := nmD k && numD n) (eb_eq (x := .str z) (y := .str "#") (ep_v rfl) ep_str rfl) fun _ => eb_and (c := numD n) (hnm rfl) fun _ => ?_) fun u H2 s2 e => ?_
    · cases n with
      | int i =>
        cases h3
        exact eb_and (b := true) (c := decide (1 ≤ i)) (hin rfl) fun _ => eb_ints (f := fun i j => decide (j ≤ i)) (ep_v rfl) ep_int2
      | _ => exact eb_and (b := false) (c := false) (hin rfl) fun e => nomatch e
    · rw [e, show decide (V.str z = V.str "#") = decide (z = "#") from decide_eq_decide.mpr ⟨fun e => V.str.inj e, fun e => by rw [e]⟩]
      exact q H2 (Same.trans s1 s2)
end
end Kd

set_option Elab.async false
set_option linter.all false
set_option maxRecDepth 100000
set_option maxHeartbeats 4000000
/-! fresh -/
namespace Ed
open PySem PySem.Spec PyProof.Rows L2 Dq Vl Kd
variable {K : PySem.W.Frag} {σ : L2.St} {H : Hp} {te ta tb : TE}
/-- a comprehension over a tuple, without tests -/
theorem ed_lcT {i : Nat} {l : List D5} {f : D5 → D5} (h : ED (O5 K) ta σ H (.tup l)) (hl : l.length ≤ 10000) (nl : ∀ x ∈ l, nol (f x) = true) (hw : ∀ u, wipe ((wipe σ [i]).set i (some u)) [i] = wipe σ [i])
    (hs : ∀ x u H2, x ∈ l → Same H H2 → Dv (O5 K) H2 x u → ED (O5 K) te ((wipe σ [i]).set i (some u)) H2 (f x)) : ED (O5 K) (tLc (iTup K ta) (gName i) tYes te [i]) σ H (.lst (l.map f)) := by
  have e := ed_lcD (K := K) (tt := tYes) (te := te) (f := fun x => some (f x)) h hl (fun x hx d e => by cases e; exact nl x hx) hw fun x u H2 N M hx s2 hxu q1 q2 => by
    show if true = true then te _ H2 N else M H2
    rw [if_pos rfl]
    exact (hs x u H2 hx s2 hxu).run fun v H4 s4 hv => q1 _ rfl v H4 s4 hv
  rwa [List.filterMap_eq_map'] at e
end Ed
namespace Kd
open PySem PySem.Spec PyProof.Rows L2 Dq Vl Pf Ed
abbrev sFrs : Stmt := tp 19
abbrev NFrs : List Str := ["value", "part", "key"]
theorem scFrs : FnScope NFrs ["value"] (defScope sFrs) := ⟨rfl, rfl, rfl, by decide +kernel, rfl, by decide +kernel, by decide +kernel⟩
/-- maps that may lie in a map of these keys -/
def below (ks : List Str) : List (List Str) := if ks = ([("x" : Str)]) then [] else [[("x" : Str)]]
def okKs (ks : List Str) : Bool := decide (ks = [("x" : Str)]) || decide (ks.head? ≠ some ("x" : Str))
/-- data of so many layers, without lists and objects -/
def lay : Nat → D5 → Bool
  | 0, _ => false
  | n + 1, .tup l => l.all (lay n) && decide (l.length ≤ 1000)
  | n + 1, .map ks l => l.all (lay n) && (l.all (kpt (below ks)) && (okKs ks && decide (ks.length ≤ 1000)))
  | _ + 1, .lst _ => false
  | _ + 1, .ob _ => false
  | _ + 1, _ => true
def spFrs (K : PySem.W.Frag) (n : Nat) : Sp := fun vs H Q _ => ∃ v d, vs = [v] ∧ Dv (O5 K) H d v ∧ lay n d = true ∧ ∀ v' H', Same H H' → Dv (O5 K) H' d v' → Q v' H'
theorem lay_nol : ∀ (n : Nat) (d : D5), lay n d = true → nol d = true
  | n + 1, .non, _ => rfl
  | n + 1, .bl _, _ => rfl
  | n + 1, .int _, _ => rfl
  | n + 1, .str _, _ => rfl
  | n + 1, .ob _, h => nomatch h
  | n + 1, .lst _, h => nomatch h
  | n + 1, .tup l, h => by
    simp only [lay, Bool.and_eq_true] at h
    rw [nol]
    exact nolL_all fun x hx => lay_nol n x (List.all_eq_true.mp h.1 x hx)
  | n + 1, .map ks l, h => by
    simp only [lay, Bool.and_eq_true] at h
    rw [nol]
    exact nolL_all fun x hx => lay_nol n x (List.all_eq_true.mp h.1 x hx)
theorem kptL_all {Ks : List (List Str)} : ∀ {l : List D5}, (∀ x ∈ l, kpt Ks x = true) → kptL Ks l = true
  | [], _ => by simp [kptL]
  | x :: l, h => by rw [kptL, h x List.mem_cons_self, kptL_all fun y hy => h y (List.mem_cons_of_mem _ hy)]; rfl
theorem ks_take {ks : List Str} (h : okKs ks = true) : ∀ i, ∀ ks' ∈ below ks, (ks.take i).map (Sum.inr : Str → Key) ≠ ks'.map Sum.inr := fun i ks' hk e => by
  unfold below at hk
  by_cases hx : ks = [("x" : Str)]
  · rw [if_pos hx] at hk; cases hk
  · rw [if_neg hx] at hk
    rw [List.mem_singleton.mp hk] at e
    simp only [okKs, Bool.or_eq_true, decide_eq_true_eq] at h
    rcases h with h | h
    · exact hx h
    · cases ks with
      | nil => simp at e
      | cons k ks =>
        cases i with
        | zero => simp at e
        | succ i =>
          simp only [List.take_succ_cons, List.map_cons, List.map_nil, List.cons.injEq, Sum.inr.injEq] at e
          exact h (by rw [List.head?_cons, e.1])
theorem alien_dk {Ks : List (List Str)} {kvs : List (Key × V)} (h : ∀ ks ∈ Ks, kvs.map (·.1) ≠ ks.map Sum.inr) : Alien Ks (.dK kvs) := ⟨fun xs e => (nomatch e), fun ob xs e => (nomatch e), fun kvs' ks e hk => by cases e; exact h ks hk⟩
theorem alien_frz {Ks : List (List Str)} {ob : Obj} {kvs : List (Key × V)} : Alien Ks (.frz ob (.dK kvs)) := ⟨fun xs e => (nomatch e), fun o xs e => (by cases e), fun kvs' ks e hk => (nomatch e)⟩
section
variable {P : Program} {w : World} {K : PySem.W.Frag} {mg : Str → Option Value} {base : Heap}
theorem ok_frs {f : Addr} {fd : FuncData} {n j : Nat} (F : Fun K "fresh" "fresh" sFrs f fd) (T : TxtV mg) (DF : Def P w K mg base j "fresh" f fd ["value"] (spFrs K n)) : FnOk P w K mg base CX0 (j + 1) f fd ["value"] (spFrs K (n + 1)) := by
  refine F.ok scFrs (fun vs H Q E h => ?_) (fun cdv A outer s H vs Q E hr h => ?_)
  · obtain ⟨v, d, rfl, _⟩ := h
    rfl
  · obtain ⟨v, d, rfl, hd, ok, q⟩ := h
    refine ⟨_, pss_cons (ps_if (pt_val (pe_callB (call_is6 (T := "tuple") (by simp)) (by rfl) T.isi (by decide +kernel) (pa_cons (pv 0) (pa_cons (pe_bltn (v := .ty "tuple") (by rfl) T.tuple (by decide +kernel) rfl) pa_nil))))
        (pss_one (ps_ret (pe_callTy call_tuple_of (by rfl) T.tuple (by decide +kernel) (pa_cons (pe_lc (own := [("part", 1)]) (g := gName 1) (tt := tYes) rfl scFrs.nd (pi_tup (pv 0)) (blkOk_by (N := NFrs) (sc := defScope sFrs) (by decide +kernel)) (fun _ _ _ _ _ => pg_name (i := 1) scFrs.nd rfl (Or.inl rfl)) (fun _ _ _ _ _ => pts_nil)
          (fun _ _ _ _ _ => pe_call DF.ok hr rfl DF.g DF.kp DF.b .nil pass0 (pa_cons (pv 1) pa_nil))) pa_nil)))) pss_nil)
      (pss_cons (ps_if (pt_val (pe_callB (call_is6 (T := "dict") (by simp)) (by rfl) T.isi (by decide +kernel) (pa_cons (pv 0) (pa_cons (pe_bltn (v := .ty "dict") (by rfl) T.dict (by decide +kernel) rfl) pa_nil))))
        (pss_one (ps_ret (pe_lock (pe_dc (own := [("key", 2)]) (g := gName 2) (tt := tYes) rfl scFrs.nd (pi_keys (pv 0)) (blkOk_by (N := NFrs) (sc := defScope sFrs) (by decide +kernel)) (fun _ _ _ _ _ => pg_name (i := 2) scFrs.nd rfl (Or.inl rfl)) (fun _ _ _ _ _ => pts_nil) (fun _ _ _ _ _ => pv 2)
          (fun _ _ _ _ _ => (pe_call DF.ok hr rfl DF.g DF.kp DF.b .nil pass0 (pa_cons (pe_dget (hu_of hr) (pv 0) (pv 2) (fun _ _ => rfl)) pa_nil))))))) pss_nil)
      (pss_one (ps_ret (pv 0)))), ?_⟩
    have P := kps5 (K := K)
    have h0 : ∀ {σ : L2.St} {H' : Hp}, σ[0]? = some (some v) → Same H H' → ED (O5 K) (tVar 0) σ H' d := fun e s => ed_pv P e (P.dv s hd)
    refine ET.ite (et_b (eb_is6 (h0 rfl (Same.refl H)))) (fun et H1 s1 => ?_) fun et H1 s1 => ?_
    · obtain ⟨l, rfl⟩ : ∃ l, d = .tup l := by
        cases d with
        | tup l => exact ⟨l, rfl⟩
        | bl b => simp [isT6] at et
        | _ => cases et
      simp only [lay, Bool.and_eq_true, decide_eq_true_eq] at ok
      have oks := List.all_eq_true.mp ok.1
      have e1 := ed_tupL P (ed_lcT (K := K) (te := tCall (spFrs K n) [] E0 (tCons (tVar 1) tNil)) (i := 1) (f := fun x => x) (h0 (σ := [some v, none, none]) rfl s1) (by omega) (fun x hx => lay_nol n x (oks x hx)) (fun u => rfl) fun x u H2 hx s2 hxu H3 s3 Q3 q3 => ⟨_, rfl, u, x, rfl, P.dv s3 hxu, oks x hx, fun v' H' s' hd' => q3 v' H' s' hd'⟩)
      rw [List.map_id'] at e1
      exact ED.ret e1 fun v' H' s' hd' => q v' H' (Same.trans s1 s') hd'
    · refine ET.ite (et_b (eb_is6 (h0 rfl s1))) (fun et2 H2 s2 => ?_) fun et2 H2 s2 => ?_
      · obtain ⟨ks, l, rfl⟩ : ∃ ks l, d = .map ks l := by
          cases d with
          | map ks l => exact ⟨ks, l, rfl⟩
          | bl b => simp [isT6] at et2
          | _ => cases et2
        simp only [lay, Bool.and_eq_true, decide_eq_true_eq] at ok
        obtain ⟨ok1, ok2, ok3, ok4⟩ := ok
        have oks := List.all_eq_true.mp ok1
        have okk := List.all_eq_true.mp ok2
        obtain ⟨a, kvs, rfl, ha, nd, hk, hl⟩ := P.dv (Same.trans s1 s2) hd
        have s02 := Same.trans s1 s2
        have lk : kvs.length = ks.length := by have := congrArg List.length hk; rwa [List.length_map, List.length_map] at this
        have ndk : (kvs.map (·.1)).Nodup := by rw [hk]; exact List.pairwise_map.mpr (List.Pairwise.imp (fun n e => n (Sum.inr.inj e)) nd)
        have al0 : ∀ b ∈ [a], ∀ o, H2 b = some o → Alien (below ks) o := fun b hb o e => by
          rw [List.mem_singleton.mp hb, ha] at e
          cases e
          exact alien_dk fun ks' hk' => by
            rw [hk]
            have := ks_take ok3 ks.length ks' hk'
            rwa [List.take_length] at this
        refine ⟨a, .dK kvs, ha, True.intro, fun od => ⟨_, rfl, a, od, rfl, .inl ⟨kvs, upd_same, fun D hD => ?_⟩⟩⟩
        have nDa : D ≠ a := fun e => by rw [e, upd_same] at hD; cases hD
        have hD0 : H2 D = none := by rwa [upd_ne nDa] at hD
        refine Sd.dc_it (walk_keys (d := a) (o := od) (kvs := kvs)) (fun i H' => (H' a = some (.frz od (.dK kvs)) ∧ Ch [a] H2 H') ∧ ∃ kv', H' D = some (.dK kv') ∧ kv'.map (·.1) = (ks.take i).map Sum.inr ∧ DvL (O5 K) H' (l.take i) (kv'.map (·.2)))
          ⟨⟨(upd_ne (Ne.symm nDa)).trans upd_same, Ch.updNew (Ch.upd (by simp)) hD0⟩, [], upd_same, rfl, rfl⟩ (fun i H' _ h => h.1.1) (fun i x H3 H4 hlt h y => ?_) (fun H3 h => ?_)
        · obtain ⟨⟨e1, e2⟩, kv', e3, e4, e5⟩ := h
          obtain ⟨rfl, k, v1, e6, rfl⟩ := y
          have hlk : i < ks.length := by omega
          obtain ⟨z, ez⟩ : ∃ z, ks[i]? = some z := ⟨ks[i], List.getElem?_eq_getElem hlk⟩
          have ek : k = Sum.inr z := by
            have := congrArg (fun m => m[i]?) hk
            simp only [List.getElem?_map, e6, ez, Option.map_some, Option.some.injEq] at this
            exact this
          subst ek
          obtain ⟨x, ex, hx⟩ := rowAt hl (i := i) (u := v1) (by rw [List.getElem?_map, e6]; rfl)
          have mx := List.mem_of_getElem? ex
          have hx3 := Dv.ch e2 al0 x v1 (okk x mx) hx
          refine ⟨rfl, _, rfl, _, rfl, _, rfl, a, v1, rfl, .inl ⟨kvs, Sum.inr z, .inr ⟨od, e1⟩, rfl, (find_at ndk e6).symm⟩, v1, x, rfl, hx3, oks x mx, fun v' H5 s5 hv' => ⟨kv', Sum.inr z, rfl, s5 _ _ e3, ?_, ⟨(upd_ne (Ne.symm nDa)).trans (s5 _ _ e1), Ch.updNew (Ch.trans e2 (Ch.same s5)) hD0⟩, ?_⟩⟩
          · have : kv'.length ≤ 1000 := by
              have := congrArg List.length e4
              rw [List.length_map, List.length_map, List.length_take] at this
              omega
            exact Nat.lt_of_le_of_lt this (by decide)
          · have nz : valV kv' (Sum.inr z : Key) = none := by
              unfold valV
              rw [Option.map_eq_none_iff, List.find?_eq_none]
              intro p hp
              simp only [decide_eq_true_eq]
              intro q2
              have m1 : (Sum.inr z : Key) ∈ (ks.take i).map Sum.inr := by rw [← e4, ← q2]; exact List.mem_map_of_mem (f := (·.1)) hp
              obtain ⟨y, hy, e7⟩ := List.mem_map.mp m1
              cases e7
              have hd2 : z ∈ ks.drop i := by rw [List.drop_eq_getElem_cons hlk]; rw [List.getElem?_eq_getElem hlk] at ez; cases ez; exact List.mem_cons_self
              have nn := nd
              rw [← List.take_append_drop i ks] at nn
              exact (List.nodup_append.mp nn).2.2 z hy z hd2 rfl
            rw [putK_new v' nz]
            have al : ∀ b ∈ [D], ∀ o, H5 b = some o → Alien (below ks) o := fun b hb o e => by
              rw [List.mem_singleton.mp hb, s5 _ _ e3] at e
              cases e
              exact alien_dk fun ks' hk' => by rw [e4]; exact ks_take ok3 i ks' hk'
            have cD : Ch [D] H5 (upd H5 D (.dK (kv' ++ [(Sum.inr z, v')]))) := Ch.upd (by simp)
            refine ⟨_, upd_same, ?_, ?_⟩
            · rw [List.map_append, e4, List.take_succ, ez, List.map_append]
              rfl
            · rw [List.map_append, List.take_succ, ex]
              exact DvL.snoc (Dv.ch cD al _ _ (okk x mx) hv') (DvL.ch cD al _ _ (kptL_all fun y hy => okk y (List.mem_of_mem_take hy)) (P.dvl s5 e5))
        · obtain ⟨⟨e1, e2⟩, kv', e3, e4, e5⟩ := h
          have ll : l.length = kvs.length := by have := hl.len; rw [List.length_map] at this; omega
          rw [lk, List.take_length] at e4
          rw [← ll, List.take_length] at e5
          refine ⟨e1, q (.ref D) _ (Same.trans s02 fun c o e => ?_) ⟨D, kv', rfl, (upd_ne nDa).trans e3, nd, e4, ?_⟩⟩
          · by_cases n : c = a
            · subst n
              rw [ha] at e
              cases e
              exact upd_same
            · exact (upd_ne n).trans (e2 c o e (by simpa using n))
          · exact DvL.ch (Ks := below ks) (Ch.upd (S := [a]) (by simp)) (fun b hb o e => by
              rw [List.mem_singleton.mp hb, e1] at e
              cases e
              exact alien_frz) _ _ (kptL_all okk) e5
      · exact ED.ret (h0 rfl (Same.trans s1 s2)) fun v' H' s' hd' => q v' H' (Same.trans s1 (Same.trans s2 s')) hd'
theorem ok_fresh {f : Addr} {fd : FuncData} (F : Fun K "fresh" "fresh" sFrs f fd) (T : TxtV mg) (g : mg "fresh" = some (.ref f)) (b : Binds K fd ["value"] []) : ∀ n, FnOk P w K mg base CX0 (n + 1) f fd ["value"] (spFrs K n)
  | 0 => F.ok (k := 0) scFrs (fun vs H Q E ⟨_, _, _, _, h, _⟩ => nomatch h) (fun cdv A outer s H vs Q E hr ⟨_, _, _, _, h, _⟩ => nomatch h)
  | n + 1 => ok_frs F T ⟨ok_fresh F T g b n, g, F.kp, b⟩
end
end Kd

set_option Elab.async false
set_option linter.all false
set_option maxRecDepth 100000
set_option maxHeartbeats 4000000
namespace Kd
open PySem PySem.Spec PyProof.Rows L2
theorem ltCps_as : ∀ a b : List Nat, ltCps a b = false → ltCps b a = false → a = b
  | [], [], _, _ => rfl
  | [], _ :: _, h, _ => by simp [ltCps] at h
  | _ :: _, [], _, h => by simp [ltCps] at h
  | x :: r, y :: t, h1, h2 => by
    simp only [ltCps, Bool.or_eq_false_iff, Bool.and_eq_false_iff, decide_eq_false_iff_not, beq_eq_false_iff_ne] at h1 h2
    have e : x = y := by omega
    subst e
    have a1 : ltCps r t = false := h1.2.resolve_left fun z => z rfl
    have a2 : ltCps t r = false := h2.2.resolve_left fun z => z rfl
    rw [ltCps_as r t a1 a2]
theorem ltCps_tr : ∀ a b c : List Nat, ltCps b a = false → ltCps c b = false → ltCps c a = false
  | _, _, [], _, h => by
    rename_i a b _
    cases a with
    | nil => rfl
    | cons x r =>
      cases b with
      | nil => (rename_i h1; simp [ltCps] at h1)
      | cons y t => simp [ltCps] at h
  | [], _, _ :: _, _, _ => rfl
  | _ :: _, [], _ :: _, h, _ => by simp [ltCps] at h
  | x :: r, y :: t, z :: u, h1, h2 => by
    simp only [ltCps, Bool.or_eq_false_iff, Bool.and_eq_false_iff, decide_eq_false_iff_not, beq_eq_false_iff_ne] at h1 h2 ⊢
    refine ⟨by omega, ?_⟩
    by_cases e : z = x
    · right
      have e1 : y = x := by omega
      have e2 : z = y := by omega
      exact ltCps_tr r t u (h1.2.resolve_left fun w => w e1) (h2.2.resolve_left fun w => w e2)
    · exact .inl e
def leS (a b : Str) : Prop := ltCps b.cps.toList a.cps.toList = false
theorem Str.ext' {a b : Str} (h : a.cps.toList = b.cps.toList) : a = b := by
  cases a; cases b
  simp at h
  rw [h]
theorem rising_all : ∀ (l : List Str) (p : Str), risingS p l = true → (p :: l).Pairwise leS
  | [], _, _ => List.pairwise_singleton _ _
  | x :: r, p, h => by
    have h' : (!ltCps x.cps.toList p.cps.toList && risingS x r) = true := h
    rw [Bool.and_eq_true, Bool.not_eq_true'] at h'
    have ih := rising_all r x h'.2
    refine List.pairwise_cons.mpr ⟨fun y hy => ?_, ih⟩
    rcases List.mem_cons.mp hy with rfl | hy
    · exact h'.1
    · exact ltCps_tr _ _ _ h'.1 ((List.pairwise_cons.mp ih).1 y hy)
theorem sorted_all : ∀ {l : List Str}, sortedS l = true → l.Pairwise leS
  | [], _ => List.Pairwise.nil
  | x :: r, h => rising_all r x h
/-- two sorted lists are the same just if they have the same items -/
theorem sorted_eq {ys zs ks ls : List Str} (h1 : ys.Perm ks) (s1 : sortedS ys = true) (h2 : zs.Perm ls) (s2 : sortedS zs = true) : ys = zs ↔ ks.Perm ls := by
  constructor
  · rintro rfl
    exact h1.symm.trans h2
  · intro p
    exact List.Perm.eq_of_pairwise (le := leS) (fun a b _ _ x y => Str.ext' (ltCps_as _ _ y x)) (sorted_all s1) (sorted_all s2) (h1.trans (p.trans h2.symm))
theorem sorted_eq2 {ys zs ks : List Str} (h1 : ys.Perm ks) (s1 : sortedS ys = true) (h2 : zs.Perm ks) (s2 : sortedS zs = true) : ys = zs := (sorted_eq h1 s1 h2 s2).mpr (List.Perm.refl ks)
end Kd

set_option Elab.async false
set_option linter.all false
set_option maxRecDepth 100000
set_option maxHeartbeats 4000000
/-! _law_key -/
namespace Ed
open PySem PySem.Spec PyProof.Rows L2 Dq Vl Kd
variable {K : PySem.W.Frag} {σ : L2.St} {H : Hp} {te ta tb : TE}
/-- a comprehension over a list of known values, without tests -/
theorem ed_lcV {i : Nat} {vs : List V} {f : Nat → D5} (h : EP ta σ H fun v H => ∃ p, v = .ref p ∧ H p = some (.lst vs)) (hl : vs.length ≤ 10000) (nl : ∀ j, j < vs.length → nol (f j) = true) (hw : ∀ u, wipe ((wipe σ [i]).set i (some u)) [i] = wipe σ [i])
    (hs : ∀ j u H2, vs[j]? = some u → Same H H2 → ED (O5 K) te ((wipe σ [i]).set i (some u)) H2 (f j)) : ED (O5 K) (tLc (iList K ta) (gName i) tYes te [i]) σ H (.lst ((List.range vs.length).map f)) := fun H1 s Q k =>
  h H1 s _ fun v H2 s2 ⟨p, ev, hp⟩ => by
    subst ev
    refine ⟨p, rfl, ⟨_, SqL.of hp⟩, fun D nD => ?_⟩
    refine lc_dat (K := K) (walk_list (xs := vs)) nD (fun j => some (f j)) hl (fun j d hj ed => by cases ed; exact nl j hj) (fun H3 s3 => SqL.of (s3 _ _ hp)) (fun j x H3 H3' N M hj s3 hy q1 q2 => ?_) (fun H3 us' s3 e3 d3 => ?_)
    · obtain ⟨rfl, ex⟩ := hy
      refine ⟨hw x, ?_⟩
      exact (hs j x _ ex (Same.trans s (Same.trans s2 s3))) _ (Same.refl _) _ fun v H4 s4 hv => q1 _ rfl v H4 s4 hv
    · rw [List.filterMap_eq_map'] at d3
      exact k _ _ (Same.trans s2 s3) ⟨D, us', rfl, e3, d3⟩
end Ed
namespace Kd
open PySem PySem.Spec PyProof.Rows L2 Dq Vl Pf Ed
abbrev sKey : Stmt := tp 43
abbrev NKey : List Str := ["_law_value", "_law_name", "_law_part"]
theorem scKey : FnScope NKey ["_law_value"] (defScope sKey) := ⟨rfl, rfl, rfl, by decide +kernel, rfl, by decide +kernel, by decide +kernel⟩
mutual
/-- a value's key, by which values are held against each other -/
def keyD : D5 → D5
  | .map ks l => .tup (.str "map" :: keyM ks l)
  | .tup l => .tup (.str "tuple" :: keyL l)
  | .bl b => .tup [.str "bool", .bl b]
  | .int i => .tup [.str "integer", .int i]
  | .non => .tup [.str "other", .non]
  | .str s => .tup [.str "other", .str s]
  | .ob o => .tup [.str "other", .ob o]
  | .lst l => .tup [.str "other", .lst l]
def keyL : List D5 → List D5
  | [] => []
  | x :: l => keyD x :: keyL l
def keyM (ks : List Str) : List D5 → List D5
  | [] => []
  | x :: l => .tup [.str (ks.headD Str.empty), keyD x] :: keyM ks.tail l
end
theorem keyL_map : ∀ l : List D5, keyL l = l.map keyD
  | [] => rfl
  | x :: l => by rw [keyL, keyL_map l]; rfl
theorem keyM_get : ∀ (ks : List Str) (l : List D5), ks.length = l.length → keyM ks l = (List.range ks.length).map fun i => .tup [.str (ks.getD i Str.empty), keyD (l.getD i .non)]
  | [], [], _ => rfl
  | k :: ks, x :: l, h => by
    rw [keyM, List.tail_cons, keyM_get ks l (by simpa using h), List.length_cons, List.range_succ_eq_map, List.map_cons, List.map_map]
    rfl
/-- values that have a key: so many layers, maps with sorted keys -/
def lyk : Nat → D5 → Bool
  | 0, _ => false
  | n + 1, .tup l => l.all (lyk n) && (nolL l && decide (l.length ≤ 1000))
  | n + 1, .map ks l => l.all (lyk n) && (nolL l && (sortedS ks && decide (ks.length < 64)))
  | _ + 1, _ => true
mutual
theorem key_nol : ∀ d : D5, nol d = true → nol (keyD d) = true
  | .non, _ => rfl
  | .bl _, _ => rfl
  | .int _, _ => rfl
  | .str _, _ => rfl
  | .ob _, _ => rfl
  | .lst _, h => by cases h
  | .tup l, h => by rw [nol] at h; rw [keyD, nol, nolL, keyL_nol l h]; rfl
  | .map ks l, h => by rw [nol] at h; rw [keyD, nol, nolL, keyM_nol ks l h]; rfl
theorem keyL_nol : ∀ l : List D5, nolL l = true → nolL (keyL l) = true
  | [], _ => by simp [keyL, nolL]
  | x :: l, h => by
    rw [nolL, Bool.and_eq_true] at h
    rw [keyL, nolL, key_nol x h.1, keyL_nol l h.2]
    rfl
theorem keyM_nol (ks : List Str) : ∀ l : List D5, nolL l = true → nolL (keyM ks l) = true
  | [], _ => by simp [keyM, nolL]
  | x :: l, h => by
    rw [nolL, Bool.and_eq_true] at h
    rw [keyM, nolL, nol, nolL, nolL, nolL, key_nol x h.1, keyM_nol ks.tail l h.2]
    rfl
end
theorem nolL_mem : ∀ {l : List D5}, nolL l = true → ∀ x ∈ l, nol x = true
  | y :: l, h, x, hx => by
    rw [nolL, Bool.and_eq_true] at h
    rcases List.mem_cons.mp hx with rfl | hx
    · exact h.1
    · exact nolL_mem h.2 x hx
def spKey (K : PySem.W.Frag) (n : Nat) : Sp := fun vs H Q _ => ∃ v d, vs = [v] ∧ Dv (O5 K) H d v ∧ lyk n d = true ∧ ∀ v' H', Same H H' → Dv (O5 K) H' (keyD d) v' → Q v' H'
section
variable {P : Program} {w : World} {K : PySem.W.Frag} {mg : Str → Option Value} {base : Heap}
theorem ok_key1 {f : Addr} {fd : FuncData} {n j : Nat} (F : Fun K "_law_key" "_law_key" sKey f fd) (T : TxtV mg) (DF : Def P w K mg base j "_law_key" f fd ["_law_value"] (spKey K n)) : FnOk P w K mg base CX0 (j + 1) f fd ["_law_value"] (spKey K (n + 1)) := by
  refine F.ok scKey (fun vs H Q E h => ?_) (fun cdv A outer s H vs Q E hr h => ?_)
  · obtain ⟨v, d, rfl, _⟩ := h
    rfl
  · obtain ⟨v, d, rfl, hd, ok, q⟩ := h
    refine ⟨_, pss_cons (ps_if (pt_val (pe_callB (call_is6 (T := "dict") (by simp)) (by rfl) T.isi (by decide +kernel) (pa_cons (pv 0) (pa_cons (pe_bltn (v := .ty "dict") (by rfl) T.dict (by decide +kernel) rfl) pa_nil))))
        (pss_one (ps_ret (pe_op op_catT (pe_tup (pa_cons pe_str pa_nil)) (pe_callTy call_tuple_of (by rfl) T.tuple (by decide +kernel) (pa_cons (pe_lc (own := [("_law_name", 1)]) (g := gName 1) (tt := tYes) rfl scKey.nd (pi_list (pe_callB (call_sortedD rfl) (by rfl) T.sorted (by decide +kernel) (pa_cons (pv 0) pa_nil))) (blkOk_by (N := NKey) (sc := defScope sKey) (by decide +kernel)) (fun _ _ _ _ _ => pg_name (i := 1) scKey.nd rfl (Or.inl rfl)) (fun _ _ _ _ _ => pts_nil)
          (fun _ _ _ _ _ => pe_tup (pa_cons (pv 1) (pa_cons (pe_call DF.ok hr rfl DF.g DF.kp DF.b .nil pass0 (pa_cons (pe_dget (hu_of hr) (pv 0) (pv 1) (fun _ _ => rfl)) pa_nil)) pa_nil)))) pa_nil))))) pss_nil)
      (pss_cons (ps_if (pt_val (pe_callB (call_is6 (T := "tuple") (by simp)) (by rfl) T.isi (by decide +kernel) (pa_cons (pv 0) (pa_cons (pe_bltn (v := .ty "tuple") (by rfl) T.tuple (by decide +kernel) rfl) pa_nil))))
        (pss_one (ps_ret (pe_op op_catT (pe_tup (pa_cons pe_str pa_nil)) (pe_callTy call_tuple_of (by rfl) T.tuple (by decide +kernel) (pa_cons (pe_lc (own := [("_law_part", 2)]) (g := gName 2) (tt := tYes) rfl scKey.nd (pi_tup (pv 0)) (blkOk_by (N := NKey) (sc := defScope sKey) (by decide +kernel)) (fun _ _ _ _ _ => pg_name (i := 2) scKey.nd rfl (Or.inl rfl)) (fun _ _ _ _ _ => pts_nil)
          (fun _ _ _ _ _ => pe_call DF.ok hr rfl DF.g DF.kp DF.b .nil pass0 (pa_cons (pv 2) pa_nil))) pa_nil))))) pss_nil)
      (pss_one (ps_ret (pe_tup (pa_cons (pe_ifExp (pt_val (pe_callB (call_is6 (T := "bool") (by simp)) (by rfl) T.isi (by decide +kernel) (pa_cons (pv 0) (pa_cons (pe_bltn (v := .ty "bool") (by rfl) T.bool (by decide +kernel) rfl) pa_nil)))) pe_str
        (pe_ifExp (pt_val (pe_callB (call_is6 (T := "int") (by simp)) (by rfl) T.isi (by decide +kernel) (pa_cons (pv 0) (pa_cons (pe_bltn (v := .ty "int") (by rfl) T.int (by decide +kernel) rfl) pa_nil)))) pe_str pe_str)) (pa_cons (pv 0) pa_nil)))))), ?_⟩
    have P := kps5 (K := K)
    have h0 : ∀ {σ : L2.St} {H' : Hp}, σ[0]? = some (some v) → Same H H' → ED (O5 K) (tVar 0) σ H' d := fun e s => ed_pv P e (P.dv s hd)
    refine ET.ite (et_b (eb_is6 (h0 rfl (Same.refl H)))) (fun et H1 s1 => ?_) fun et H1 s1 => ?_
    · obtain ⟨ks, l, rfl⟩ : ∃ ks l, d = .map ks l := by
        cases d with
        | map ks l => exact ⟨ks, l, rfl⟩
        | bl b => simp [isT6] at et
        | _ => cases et
      simp only [lyk, Bool.and_eq_true, decide_eq_true_eq] at ok
      obtain ⟨ok1, ok2, ok3, ok4⟩ := ok
      obtain ⟨a, kvs, rfl, ha, nd, hk, hl⟩ := P.dv s1 hd
      have lk : kvs.length = ks.length := by have := congrArg List.length hk; rwa [List.length_map, List.length_map] at this
      have ll : ks.length = l.length := by have := hl.len; rw [List.length_map] at this; omega
      have ndk : (kvs.map (·.1)).Nodup := by rw [hk]; exact List.pairwise_map.mpr (List.Pairwise.imp (fun n e => n (Sum.inr.inj e)) nd)
      have es : EP _ [some (V.ref a), none, none] H1 (fun v H => ∃ p, v = .ref p ∧ H p = some (.lst (ks.map V.str))) := show EP (tCB (fun xs H Q => ∃ (a : Addr) (kvs : List (Key × V)) (ks : List Str), xs = [.ref a] ∧ Rd H a (.dK kvs) ∧ kvs.map (·.1) = ks.map Sum.inr ∧ ks.length < 64 ∧ ∀ ys p, ys.Perm ks → sortedS ys = true → H p = none → Q (.ref p) (upd H p (.lst (ys.map V.str)))) (tCons (tVar 0) tNil)) _ _ _ from fun H2 s2 Q2 q2 =>
        ⟨_, rfl, a, kvs, ks, rfl, .inl (s2 _ _ ha), hk, ok4, fun ys p hp hs np => by
          have e : ys = ks := sorted_eq2 hp hs (List.Perm.refl ks) ok3
          subst e
          exact q2 _ _ (sm_upd np) ⟨p, rfl, upd_same⟩⟩
      have em := ed_lcV (K := K) (te := tTup (tCons (tVar 1) (tCons (tCall (spKey K n) [] E0 (tCons (tDGet (tVar 0) (tVar 1)) tNil)) tNil))) (i := 1) (vs := ks.map V.str) (f := fun i => .tup [.str (ks.getD i Str.empty), keyD (l.getD i .non)]) es (by rw [List.length_map]; omega)
        (fun j hj => by
          rw [List.length_map] at hj
          rw [nol, nolL, nolL, nolL, key_nol _ (nolL_mem ok2 _ (by rw [List.getD_eq_getElem?_getD, List.getElem?_eq_getElem (by omega)]; exact List.getElem_mem _))]
          rfl) (fun u => rfl) fun j u H2 eu s2 => by
          obtain ⟨z, ez⟩ : ∃ z, ks[j]? = some z := by
            rw [List.getElem?_map] at eu
            cases q : ks[j]? with
            | none => rw [q] at eu; cases eu
            | some z => exact ⟨z, rfl⟩
          rw [List.getElem?_map, ez] at eu
          cases eu
          have hj : j < kvs.length := by
            rcases Nat.lt_or_ge j ks.length with q | q
            · omega
            · rw [List.getElem?_eq_none q] at ez; cases ez
          obtain ⟨k, v1, ek⟩ : ∃ k v1, kvs[j]? = some (k, v1) := ⟨kvs[j].1, kvs[j].2, List.getElem?_eq_getElem hj⟩
          have ekz : k = Sum.inr z := by
            have := congrArg (fun m => m[j]?) hk
            simp only [List.getElem?_map, ek, ez, Option.map_some, Option.some.injEq] at this
            exact this
          subst ekz
          obtain ⟨x, ex, hx⟩ := rowAt hl (i := j) (u := v1) (by rw [List.getElem?_map, ek]; rfl)
          have mx := List.mem_of_getElem? ex
          rw [show ks.getD j Str.empty = z by rw [List.getD_eq_getElem?_getD, ez]; rfl, show l.getD j .non = x by rw [List.getD_eq_getElem?_getD, ex]; rfl]
          exact ed_tup P (ea_cons P (ed_pv (i := 1) P rfl rfl) (ea_cons P (fun H3 s3 Q3 q3 => ⟨_, rfl, _, rfl, a, v1, rfl, (find_at ndk ek) ▸ DGet.k (k := Sum.inr z) (s3 _ _ (s2 _ _ ha)), v1, x, rfl, P.dv s3 (P.dv s2 hx), List.all_eq_true.mp ok1 x mx, fun v' H' s' hd' => q3 v' H' s' hd'⟩) ea_nil)) (by simp)
      rw [List.length_map, ← keyM_get ks l ll] at em
      have lm : (keyM ks l).length = ks.length := by rw [keyM_get ks l ll, List.length_map, List.length_range]
      exact ED.ret (ed_catT P (ed_tup P (ea_cons P ed_str ea_nil) (by simp)) (ed_tupL P em) (by simp) (by rw [lm]; simp; omega)) fun v' H' s' hd' => q v' H' (Same.trans s1 s') hd'
    · refine ET.ite (et_b (eb_is6 (h0 rfl s1))) (fun et2 H2 s2 => ?_) fun et2 H2 s2 => ?_
      · obtain ⟨l, rfl⟩ : ∃ l, d = .tup l := by
          cases d with
          | tup l => exact ⟨l, rfl⟩
          | bl b => simp [isT6] at et2
          | _ => cases et2
        simp only [lyk, Bool.and_eq_true, decide_eq_true_eq] at ok
        obtain ⟨ok1, ok2, ok3⟩ := ok
        have e1 := ed_tupL P (ed_lcT (K := K) (te := tCall (spKey K n) [] E0 (tCons (tVar 2) tNil)) (i := 2) (f := keyD) (h0 (σ := [some v, none, none]) rfl (Same.trans s1 s2)) (by omega) (fun x hx => key_nol x (nolL_mem ok2 x hx)) (fun u => rfl) fun x u H2 hx s2 hxu H3 s3 Q3 q3 => ⟨_, rfl, u, x, rfl, P.dv s3 hxu, List.all_eq_true.mp ok1 x hx, fun v' H' s' hd' => q3 v' H' s' hd'⟩)
        rw [← keyL_map] at e1
        exact ED.ret (ed_catT P (ed_tup P (ea_cons P ed_str ea_nil) (by simp)) e1 (by simp) (by rw [keyL_map]; simp; omega)) fun v' H' s' hd' => q v' H' (Same.trans s1 (Same.trans s2 s')) hd'
      · have s12 := Same.trans s1 s2
        have en : ∀ {w1 : Str}, ED (O5 K) (tIf (tB (tCB (fun xs H Q => ∃ v x, xs = [v, .ty "bool"] ∧ Dv (O5 K) H x v ∧ Q (.bl (isT6 "bool" x)) H) (tCons (tVar 0) (tCons (tC (.ty "bool")) tNil)))) (tC (.str "bool")) (tIf (tB (tCB (fun xs H Q => ∃ v x, xs = [v, .ty "int"] ∧ Dv (O5 K) H x v ∧ Q (.bl (isT6 "int" x)) H) (tCons (tVar 0) (tCons (tC (.ty "int")) tNil)))) (tC (.str "integer")) (tC (.str "other")))) [some v, none, none] H2 (if isT6 "bool" d = true then .str "bool" else if isT6 "int" d = true then .str "integer" else .str "other") := fun {w1} =>
          ed_ifD (et_b (eb_is6 (h0 rfl s12))) ed_str (ed_ifD (et_b (eb_is6 (h0 rfl s12))) ed_str ed_str)
        refine ED.ret (ed_tup P (ea_cons P (en (w1 := Str.empty)) (ea_cons P (h0 rfl s12) ea_nil)) (by simp)) fun v' H' s' hd' => q v' H' (Same.trans s12 s') ?_
        cases d with
        | map ks l => cases et
        | tup l => cases et2
        | _ => exact hd'
theorem ok_key {f : Addr} {fd : FuncData} (F : Fun K "_law_key" "_law_key" sKey f fd) (T : TxtV mg) (g : mg "_law_key" = some (.ref f)) (b : Binds K fd ["_law_value"] []) : ∀ n, FnOk P w K mg base CX0 (n + 1) f fd ["_law_value"] (spKey K n)
  | 0 => F.ok (k := 0) scKey (fun vs H Q E ⟨_, _, _, _, h, _⟩ => nomatch h) (fun cdv A outer s H vs Q E hr ⟨_, _, _, _, h, _⟩ => nomatch h)
  | n + 1 => ok_key1 F T ⟨ok_key F T g b n, g, F.kp, b⟩
end
end Kd

set_option Elab.async false
set_option linter.all false
set_option maxRecDepth 100000
set_option maxHeartbeats 4000000
/-! == of tuples that ends at the first unlike pair -/
namespace Tq
open PySem PySem.SeqAt
open AutoSeq1 (wpAny_loadPart')
open MeetsSeq MeetsSeq2 MeetsSeq3 SeqRoads2
/-- what == of two tuples tells, by what their pairs tell -/
def tell (e : Nat → Bool) (a b : Array Value) : Bool := (List.range (min a.size b.size)).all e && a.size == b.size
/-- the pairs are known as far as they are asked -/
def Asked (A : Around) (s : Shared) (a b : Array Value) (e : Nat → Bool) : Prop := ∀ j (h1 : j < a.size) (h2 : j < b.size), (∀ i, i < j → e i = true) → EqAt A s a[j] b[j] (e j)
theorem tup_eq (x y : Addr) (a b : Array Value) (na nb : Nat) (da db : Option Addr) (sa sb : Array (Option Value)) (e : Nat → Bool) :
    Meets (Builtin.«tuple.__eq__» ⟨[.ref x, .ref y], []⟩) (fun A R s => s.heap.get? x = some ⟨.type "tuple", da, .seq a na, sa⟩ ∧ s.heap.get? y = some ⟨.type "tuple", db, .seq b nb, sb⟩ ∧ Asked A.in1 s a b e ∧ R (.ok (.ret (.bool (tell e a b)))) s) :=
  .of_wp fun prog w A R s hyp => by
    obtain ⟨hp, g, d, tk, os⟩ := s
    obtain ⟨hx, hy, ask, fin⟩ := hyp
    have su := AutoSeq1.sub_tuple_tuple
    have zl : (a.toList.zip b.toList).length = min a.size b.size := by simp
    wp_walk using wpAny_loadPart' hx, wpAny_loadPart' hy, wpAny_forIn_list _ (fun rest st s' => st.1 = none ∧ s' = ⟨hp, g, d, tk, os⟩ ∧ ∃ i, rest = (a.toList.zip b.toList).drop i ∧ (∀ k, k < i → e k = true) ∧
      R (.ok (.ret (.bool (((List.range (min a.size b.size)).drop i).all e && a.size == b.size)))) ⟨hp, g, d, tk, os⟩) _
    case turn =>
      rintro ⟨u, v⟩ rest st s' ⟨_, rfl, i, er, bef, goal⟩
      have li : i < (a.toList.zip b.toList).length := Nat.lt_of_not_le fun ge => by
        rw [List.drop_of_length_le ge] at er
        cases er
      have lm : i < min a.size b.size := zl ▸ li
      have la : i < a.size := Nat.lt_of_lt_of_le lm (Nat.min_le_left _ _)
      have lb : i < b.size := Nat.lt_of_lt_of_le lm (Nat.min_le_right _ _)
      rw [List.drop_eq_getElem_cons li] at er
      injection er with euv etl
      obtain rfl : u = a[i] := by simpa using congrArg Prod.fst euv
      obtain rfl : v = b[i] := by simpa using congrArg Prod.snd euv
      rw [show (List.range (min a.size b.size)).drop i = i :: (List.range (min a.size b.size)).drop (i + 1) by simp [List.drop_eq_getElem_cons, lm], List.all_cons] at goal
      refine wpAny_bind (ask i la lb bef prog w _ _ ?_)
      cases ei : e i with
      | false =>
        rw [ei] at goal
        wp_walk
        exact ⟨_, rfl, by simpa using goal⟩
      | true =>
        rw [ei] at goal
        wp_walk
        refine ⟨rfl, rfl, i + 1, etl, fun k hk => ?_, by simpa using goal⟩
        rcases Nat.lt_succ_iff_lt_or_eq.mp hk with q | rfl
        · exact bef k q
        · exact ei
    case fin =>
      rintro ⟨r, u⟩ s' ⟨er, rfl, i, ed, _, goal⟩
      simp only at er
      subst er
      have ge : min a.size b.size ≤ i := Nat.le_of_not_lt fun lt => by
        rw [List.drop_eq_getElem_cons (by rw [zl]; exact lt)] at ed
        cases ed
      rw [List.drop_of_length_le (by simpa using ge)] at goal
      wp_walk
      exact ⟨_, rfl, by simpa [Builtin.Tuple.tupleCompareSizes] using goal⟩
    case h =>
      exact ⟨rfl, rfl, 0, rfl, fun k hk => absurd hk (Nat.not_lt_zero _), by simpa [tell] using fin⟩
section
variable {A : Around} {s : Shared} {x y : Addr} {a b : Array Value} {e : Nat → Bool}
theorem rc_tuples (hx : s.heap.IsTuple x a) (hy : s.heap.IsTuple y b) (hu : A.units < cLine) (ask : Asked A.in1 s a b e) : RcAt A s (.ref x) (.ref y) (tell e a b) := fun prog w E Q h => by
  obtain ⟨⟨c1, d1, dt1, s1⟩, o1, e1, n1, f1⟩ := id hx
  obtain ⟨⟨c2, d2, dt2, s2⟩, o2, e2, n2, f2⟩ := id hy
  simp only at e1 f1 e2 f2
  subst e1 f1 e2 f2
  refine richCompare_meets_room (op := .Eq) ⟨_, o1, rfl⟩ ⟨_, o2, rfl⟩ F.slot_tuple_eq F.entry_tuple_eq (F.args_tuple_eq_2 _ _) (tup_eq x y a b n1 n2 d1 d2 s1 s2 e) ⟨o1, o2, ask, ?_⟩ hu
  exact (⟨(fun z => nomatch z), h⟩ : Value.bool (tell e a b) ≠ Value.notImplemented ∧ Q (.bool (tell e a b)) s)
end
end Tq

set_option Elab.async false
set_option linter.all false
set_option maxRecDepth 100000
set_option maxHeartbeats 4000000
/-! == and != of data, asked as far as the first unlike pair -/
namespace Kd
open PySem PySem.Spec PyProof.Rows L2 Dq Vl Pf Ed
def strE (a : Str) : D5 → Option Bool
  | .str b => some (a == b)
  | .tup _ => some false
  | .int _ => some false
  | .non => some false
  | _ => none
def intE (a : Int) : D5 → Option Bool
  | .int b => some (a == b)
  | .tup _ => some false
  | .str _ => some false
  | .non => some false
  | _ => none
def blE (a : Bool) : D5 → Option Bool
  | .bl b => some (a == b)
  | _ => none
def nonE : D5 → Option Bool
  | .non => some true
  | .tup _ => some false
  | .str _ => some false
  | .int _ => some false
  | _ => none
mutual
def eqv5 : D5 → D5 → Option Bool
  | .str a, e => strE a e
  | .int a, e => intE a e
  | .bl a, e => blE a e
  | .non, e => nonE e
  | .tup l, e => match e with
    | .tup m => eqvL5 l m
    | .str _ => some false
    | .int _ => some false
    | .non => some false
    | _ => none
  | .ob _, _ => none
  | .lst _, _ => none
  | .map _ _, _ => none
def eqvL5 : List D5 → List D5 → Option Bool
  | [], m => some m.isEmpty
  | x :: l, m => match m with
    | [] => some false
    | y :: m => if eqv5 x y = some true then eqvL5 l m else eqv5 x y
end
theorem e5L_nn : eqvL5 [] [] = some true := rfl
theorem e5L_nc {y : D5} {m : List D5} : eqvL5 [] (y :: m) = some false := rfl
theorem e5L_cn {y : D5} {m : List D5} : eqvL5 (y :: m) [] = some false := by rw [eqvL5]
theorem e5L_cc {x y : D5} {l m : List D5} : eqvL5 (x :: l) (y :: m) = if eqv5 x y = some true then eqvL5 l m else eqv5 x y := by rw [eqvL5]
theorem e5_tt {l m : List D5} : eqv5 (.tup l) (.tup m) = eqvL5 l m := by rw [eqv5]
theorem e5_ts {l : List D5} {z : Str} : eqv5 (.tup l) (.str z) = some false := by rw [eqv5]
theorem e5_ti {l : List D5} {z : Int} : eqv5 (.tup l) (.int z) = some false := by rw [eqv5]
theorem e5_tn {l : List D5} : eqv5 (.tup l) .non = some false := by rw [eqv5]
theorem e5_str {z : Str} {e : D5} : eqv5 (.str z) e = strE z e := by rw [eqv5]
theorem e5_int {z : Int} {e : D5} : eqv5 (.int z) e = intE z e := by rw [eqv5]
theorem e5_bl {z : Bool} {e : D5} : eqv5 (.bl z) e = blE z e := by rw [eqv5]
theorem e5_non {e : D5} : eqv5 .non e = nonE e := by rw [eqv5]
mutual
def dp : D5 → Nat
  | .tup l => dpL l + 1
  | _ => 0
def dpL : List D5 → Nat
  | [] => 0
  | x :: l => max (dp x) (dpL l)
end
theorem dpL_mem : ∀ {l : List D5} {x : D5}, x ∈ l → dp x ≤ dpL l
  | y :: l, x, h => by
    rw [dpL]
    rcases List.mem_cons.mp h with rfl | h
    · exact Nat.le_max_left _ _
    · exact Nat.le_trans (dpL_mem h) (Nat.le_max_right _ _)
def eAt (l m : List D5) (j : Nat) : Bool := decide (eqv5 (l.getD j .non) (m.getD j .non) = some true)
theorem eqvL_ask : ∀ (l m : List D5) (b : Bool), eqvL5 l m = some b → ∀ j, j < l.length → j < m.length → (∀ i, i < j → eAt l m i = true) → ∃ c, eqv5 (l.getD j .non) (m.getD j .non) = some c
  | [], _, _, _, _, h, _, _ => absurd h (Nat.not_lt_zero _)
  | _ :: _, [], _, _, _, _, h, _ => absurd h (Nat.not_lt_zero _)
  | x :: l, y :: m, b, h, 0, _, _, _ => by
    rw [e5L_cc] at h
    by_cases e : eqv5 x y = some true
    · exact ⟨true, e⟩
    · rw [if_neg e] at h
      exact ⟨b, h⟩
  | x :: l, y :: m, b, h, j + 1, h1, h2, k => by
    have k0 : eqv5 x y = some true := of_decide_eq_true (k 0 (Nat.zero_lt_succ j))
    rw [e5L_cc, if_pos k0] at h
    exact eqvL_ask l m b h j (Nat.lt_of_succ_lt_succ h1) (Nat.lt_of_succ_lt_succ h2) fun i hi => k (i + 1) (Nat.succ_lt_succ hi)
theorem eqvL_tell : ∀ (l m : List D5) (b : Bool), eqvL5 l m = some b → ((List.range (min l.length m.length)).all (eAt l m) && l.length == m.length) = b
  | [], [], b, h => by rw [e5L_nn] at h; cases h; rfl
  | [], _ :: _, b, h => by rw [e5L_nc] at h; cases h; rfl
  | _ :: _, [], b, h => by rw [e5L_cn] at h; cases h; rfl
  | x :: l, y :: m, b, h => by
    rw [e5L_cc] at h
    have e0 : (List.range (min (x :: l).length (y :: m).length)) = 0 :: (List.range (min l.length m.length)).map Nat.succ := by
      rw [List.length_cons, List.length_cons, Nat.add_min_add_right, List.range_succ_eq_map]
    have ec : (eAt (x :: l) (y :: m)) ∘ Nat.succ = eAt l m := rfl
    rw [e0, List.all_cons, List.all_map, ec]
    by_cases e : eqv5 x y = some true
    · rw [if_pos e] at h
      rw [show eAt (x :: l) (y :: m) 0 = true from decide_eq_true e, Bool.true_and, List.length_cons, List.length_cons]
      rw [show (l.length + 1 == m.length + 1) = (l.length == m.length) by rw [Bool.eq_iff_iff]; simp]
      exact eqvL_tell l m b h
    · rw [if_neg e] at h
      have eb : b = false := by
        cases b with
        | false => rfl
        | true => exact absurd h e
      rw [show eAt (x :: l) (y :: m) 0 = false from decide_eq_false e, eb]
      rfl
section
variable {X : Cx} {pins : List (Addr × Obj)} {σ : L2.St} {H : Hp} {s : Shared}
theorem leaf_one {d e : D5} {v : V} {b : Bool} (h : Dv (O5 X.K) H d v) (k : Dv (O5 X.K) H e v) (q : eqv5 d e = some b) (nd : ∀ l, d ≠ .tup l) (ne : ∀ l, e ≠ .tup l) : b = true := by
  cases d with
  | str x =>
    cases h
    rw [e5_str] at q
    cases e with
    | str y => cases k; simp only [strE, beq_self_eq_true, Option.some.injEq] at q; exact q.symm
    | int y => cases k
    | non => cases k
    | tup l => exact absurd rfl (ne l)
    | bl y => cases q
    | ob y => cases q
    | lst y => cases q
    | map y z => cases q
  | int x =>
    cases h
    rw [e5_int] at q
    cases e with
    | int y => cases k; simp only [intE, beq_self_eq_true, Option.some.injEq] at q; exact q.symm
    | str y => cases k
    | non => cases k
    | tup l => exact absurd rfl (ne l)
    | bl y => cases q
    | ob y => cases q
    | lst y => cases q
    | map y z => cases q
  | bl x =>
    cases h
    rw [e5_bl] at q
    cases e with
    | bl y => cases k; simp only [blE, beq_self_eq_true, Option.some.injEq] at q; exact q.symm
    | _ => cases q
  | non =>
    cases h
    rw [e5_non] at q
    cases e with
    | non => cases q; rfl
    | str y => cases k
    | int y => cases k
    | tup l => exact absurd rfl (ne l)
    | bl y => cases q
    | ob y => cases q
    | lst y => cases q
    | map y z => cases q
  | tup l => exact absurd rfl (nd l)
  | ob y => cases q
  | lst y => cases q
  | map y z => cases q
theorem istup (d : D5) : (∃ l, d = .tup l) ∨ ∀ l, d ≠ .tup l := by
  cases d with
  | tup l => exact .inl ⟨l, rfl⟩
  | _ => exact .inr fun l e => nomatch e
/-- a value that is a tuple and no tuple -/
theorem tup_not {e : D5} {l : List D5} {v : V} {b : Bool} (h : Dv (O5 X.K) H (.tup l) v) (k : Dv (O5 X.K) H e v) (ne : ∀ l, e ≠ .tup l) : (eqv5 (.tup l) e = some b → b = true) ∧ (eqv5 e (.tup l) = some b → b = true) := by
  obtain ⟨a, us, rfl, ha, pa⟩ := h
  cases e with
  | str y => cases k
  | int y => cases k
  | non => cases k
  | tup m => exact absurd rfl (ne m)
  | bl y => cases k
  | ob y => exact ⟨fun q => (nomatch (show (none : Option Bool) = some b from q)), fun q => (nomatch (show (none : Option Bool) = some b from q))⟩
  | lst y => exact ⟨fun q => (nomatch (show (none : Option Bool) = some b from q)), fun q => (nomatch (show (none : Option Bool) = some b from q))⟩
  | map y z => exact ⟨fun q => (nomatch (show (none : Option Bool) = some b from q)), fun q => (nomatch (show (none : Option Bool) = some b from q))⟩
/-- one value by two descriptions is told to be itself -/
theorem eqv_one (I : Inv X pins σ H s) (n : Nat) : ∀ (d e : D5) (v : V) (b : Bool), dp d < n → Dv (O5 X.K) H d v → Dv (O5 X.K) H e v → eqv5 d e = some b → b = true := by
  induction n with
  | zero => intro d e v b hn; exact absurd hn (Nat.not_lt_zero _)
  | succ n ih =>
    intro d e v b hn h k q
    rcases istup d with ⟨l, rfl⟩ | nd
    · rcases istup e with ⟨m, rfl⟩ | ne
      · obtain ⟨a, us, e1, h, p⟩ := h
        obtain ⟨a', us', e2, h', p'⟩ := k
        rw [e1] at e2
        cases e2
        have := I.tuple_inj h h'
        subst this
        rw [e5_tt] at q
        rw [dp] at hn
        have go : ∀ (l m : List D5) (us : List V), dpL l < n → DvL (O5 X.K) H l us → DvL (O5 X.K) H m us → eqvL5 l m = some b → b = true := by
          intro l
          induction l with
          | nil =>
            intro m us _ p p' q
            cases m with
            | nil => rw [e5L_nn] at q; cases q; rfl
            | cons y m =>
              cases p
              obtain ⟨_, _, e, _⟩ := p'
              cases e
          | cons x l ih2 =>
            intro m us hl p p' q
            obtain ⟨u, r, e, hx, p⟩ := p
            subst e
            cases m with
            | nil => cases p'
            | cons y m =>
              obtain ⟨u', r', e', hy, p'⟩ := p'
              cases e'
              rw [e5L_cc] at q
              rw [dpL] at hl
              by_cases c : eqv5 x y = some true
              · rw [if_pos c] at q
                exact ih2 m r (by omega) p p' q
              · rw [if_neg c] at q
                exact ih x y u b (by omega) hx hy q
        exact go l m us (by omega) p p' q
      · exact (tup_not h k ne).1 q
    · rcases istup e with ⟨m, rfl⟩ | ne
      · exact (tup_not k h nd).2 q
      · exact leaf_one h k q nd ne
theorem eqAt_leafs {A : Around} {d e : D5} {v u : V} {v' u' : Value} {b : Bool} (h : Dv (O5 X.K) H d v) (k : Dv (O5 X.K) H e u) (r : RelV v v') (r' : RelV u u') (q : eqv5 d e = some b) (nt : (∀ l, d ≠ .tup l) ∧ ∀ l, e ≠ .tup l) : SeqAt.EqAt A s v' u' b := by
  cases d with
  | str x =>
    rw [e5_str] at q
    cases h
    obtain ⟨t, rfl⟩ := r
    cases e with
    | str y => cases k; obtain ⟨t', rfl⟩ := r'; cases q; exact SeqAt.EqAt.str_str x t y t'
    | int y => cases k; obtain ⟨t', rfl⟩ := r'; cases q; exact SeqAt.EqAt.str_int x t y t'
    | non => cases k; cases r'; cases q; exact SeqAt.EqAt.str_none x t
    | tup l => exact absurd rfl (nt.2 l)
    | bl y => cases q
    | ob y => cases q
    | lst y => cases q
    | map y z => cases q
  | int x =>
    rw [e5_int] at q
    cases h
    obtain ⟨t, rfl⟩ := r
    cases e with
    | str y => cases k; obtain ⟨t', rfl⟩ := r'; cases q; exact SeqAt.EqAt.int_str x t y t'
    | int y => cases k; obtain ⟨t', rfl⟩ := r'; cases q; exact SeqAt.EqAt.int_int x t y t'
    | non => cases k; cases r'; cases q; exact SeqAt.EqAt.int_none x t
    | tup l => exact absurd rfl (nt.2 l)
    | bl y => cases q
    | ob y => cases q
    | lst y => cases q
    | map y z => cases q
  | bl x =>
    rw [e5_bl] at q
    cases h
    cases r
    cases e with
    | bl y => cases k; cases r'; cases q; exact SeqAt.EqAt.bool_bool x y
    | tup l => exact absurd rfl (nt.2 l)
    | _ => cases q
  | non =>
    rw [e5_non] at q
    cases h
    cases r
    cases e with
    | str y => cases k; obtain ⟨t', rfl⟩ := r'; cases q; exact SeqAt.EqAt.none_str y t'
    | int y => cases k; obtain ⟨t', rfl⟩ := r'; cases q; exact SeqAt.EqAt.none_int y t'
    | non => cases k; cases r'; cases q; exact SeqAt.EqAt.same _
    | tup l => exact absurd rfl (nt.2 l)
    | _ => cases q
  | tup l => exact absurd rfl (nt.1 l)
  | ob y => cases q
  | lst y => cases q
  | map y z => cases q
theorem eqAt_tl {A : Around} {l : List D5} {e : D5} {v u : V} {v' u' : Value} {b : Bool} (I : Inv X pins σ H s) (h : Dv (O5 X.K) H (.tup l) v) (k : Dv (O5 X.K) H e u) (r : RelV v v') (r' : RelV u u') (nt : ∀ m, e ≠ .tup m) (hu : A.units < cLine) :
    (eqv5 (.tup l) e = some b → SeqAt.EqAt A s v' u' b) ∧ (eqv5 e (.tup l) = some b → SeqAt.EqAt A s u' v' b) := by
  obtain ⟨a, us, rfl, ha, pa⟩ := h
  cases r
  obtain ⟨its, r1, t1, _⟩ := I.tuple ha
  cases e with
  | str y =>
    cases k
    obtain ⟨t, rfl⟩ := r'
    refine ⟨fun q => ?_, fun q => ?_⟩
    · cases q
      exact SeqAt.EqAt.tuple_str y t t1 hu
    · cases q
      exact SeqAt.EqAt.str_tuple y t t1 hu
  | int y =>
    cases k
    obtain ⟨t, rfl⟩ := r'
    refine ⟨fun q => ?_, fun q => ?_⟩
    · cases q
      exact SeqAt.EqAt.tuple_int y t t1 hu
    · cases q
      exact SeqAt.EqAt.int_tuple y t t1 hu
  | non =>
    cases k
    cases r'
    refine ⟨fun q => ?_, fun q => ?_⟩
    · cases q
      exact SeqAt.EqAt.tuple_none t1 hu
    · cases q
      exact SeqAt.EqAt.none_tuple t1 hu
  | tup m => exact absurd rfl (nt m)
  | bl y => exact ⟨fun q => (nomatch (show (none : Option Bool) = some b from q)), fun q => (nomatch (show (none : Option Bool) = some b from q))⟩
  | ob y => exact ⟨fun q => (nomatch (show (none : Option Bool) = some b from q)), fun q => (nomatch (show (none : Option Bool) = some b from q))⟩
  | lst y => exact ⟨fun q => (nomatch (show (none : Option Bool) = some b from q)), fun q => (nomatch (show (none : Option Bool) = some b from q))⟩
  | map y z => exact ⟨fun q => (nomatch (show (none : Option Bool) = some b from q)), fun q => (nomatch (show (none : Option Bool) = some b from q))⟩
theorem eqAt5 (I : Inv X pins σ H s) (n : Nat) : ∀ (d e : D5) (v u : V) (v' u' : Value) (b : Bool) (A : Around), dp d < n → Dv (O5 X.K) H d v → Dv (O5 X.K) H e u → RelV v v' → RelV u u' → eqv5 d e = some b → A.units + dp d + 1 < cLine → SeqAt.EqAt A s v' u' b := by
  induction n with
  | zero => intro d e v u v' u' b A hn; exact absurd hn (Nat.not_lt_zero _)
  | succ n ih =>
    intro d e v u v' u' b A hn hd he r r' q hu
    rcases istup d with ⟨l, rfl⟩ | nd
    · rcases istup e with ⟨m, rfl⟩ | ne
      · obtain ⟨a, us, rfl, ha, pa⟩ := hd
        obtain ⟨c, ws, rfl, hc, pc⟩ := he
        cases r
        cases r'
        by_cases eac : a = c
        · subst eac
          obtain rfl := eqv_one I (dp (.tup l) + 1) (.tup l) (.tup m) (.ref a) b (Nat.lt_succ_self _) ⟨a, us, rfl, ha, pa⟩ ⟨a, ws, rfl, hc, pc⟩ q
          exact SeqAt.EqAt.same _
        · obtain ⟨its, r1, t1, _⟩ := I.tuple ha
          obtain ⟨its2, r2, t2, _⟩ := I.tuple hc
          rw [e5_tt] at q
          rw [dp] at hn hu
          have z1 : its.length = l.length := by rw [← r1.length]; exact pa.len
          have z2 : its2.length = m.length := by rw [← r2.length]; exact pc.len
          refine SeqAt.EqAt.of_refs eac ?_
          have tl : Tq.tell (eAt l m) its.toArray its2.toArray = b := by
            unfold Tq.tell
            rw [List.size_toArray, List.size_toArray, z1, z2]
            exact eqvL_tell l m b q
          rw [← tl]
          refine Tq.rc_tuples t1 t2 (by omega) fun j h1 h2 bef => ?_
          have j1 : j < l.length := by rw [← z1]; simpa using h1
          have j2 : j < m.length := by rw [← z2]; simpa using h2
          obtain ⟨x, hx⟩ : ∃ x, l[j]? = some x := ⟨_, List.getElem?_eq_getElem j1⟩
          obtain ⟨y, hy⟩ : ∃ y, m[j]? = some y := ⟨_, List.getElem?_eq_getElem j2⟩
          obtain ⟨w1, g1, k1⟩ := at_dv pa hx
          obtain ⟨w2, g2, k2⟩ := at_dv pc hy
          obtain ⟨i1, f1, rr1⟩ := r1.get g1
          obtain ⟨i2, f2, rr2⟩ := r2.get g2
          obtain ⟨c2, ec⟩ := eqvL_ask l m b q j j1 j2 bef
          rw [show l.getD j .non = x by rw [List.getD_eq_getElem?_getD, hx]; rfl, show m.getD j .non = y by rw [List.getD_eq_getElem?_getD, hy]; rfl] at ec
          have ee : eAt l m j = c2 := by
            unfold eAt
            rw [show l.getD j .non = x by rw [List.getD_eq_getElem?_getD, hx]; rfl, show m.getD j .non = y by rw [List.getD_eq_getElem?_getD, hy]; rfl, ec]
            cases c2 <;> simp
          have v1 : its.toArray[j] = i1 := by rw [List.getElem?_eq_getElem (by simpa using h1)] at f1; simpa using f1
          have v2 : its2.toArray[j] = i2 := by rw [List.getElem?_eq_getElem (by simpa using h2)] at f2; simpa using f2
          rw [v1, v2, ee]
          have hdx := dpL_mem (List.mem_of_getElem? hx)
          exact ih x y w1 w2 i1 i2 c2 A.in1 (by omega) k1 k2 rr1 rr2 ec (by show A.units + 1 + dp x + 1 < cLine; omega)
      · exact (eqAt_tl I hd he r r' ne (by omega)).1 q
    · rcases istup e with ⟨m, rfl⟩ | ne
      · exact (eqAt_tl I he hd r' r nd (by omega)).2 q
      · exact eqAt_leafs hd he r r' q ⟨nd, ne⟩
end
end Kd

set_option Elab.async false
set_option linter.all false
set_option maxRecDepth 100000
set_option maxHeartbeats 4000000
/-! the rules for == and != of tuples of data -/
namespace Kd
open PySem PySem.Spec PyProof.Rows L2 Dq Vl Pf Ed
def rEq5 (K : PySem.W.Frag) : R2 := fun x y H Q => ∃ l m b, Dv (O5 K) H (.tup l) x ∧ Dv (O5 K) H (.tup m) y ∧ eqvL5 l m = some b ∧ dpL l ≤ 30 ∧ Q (.bl b) H
def rNe5 (K : PySem.W.Frag) : R2 := fun x y H Q => ∃ l m b, Dv (O5 K) H (.tup l) x ∧ Dv (O5 K) H (.tup m) y ∧ eqvL5 l m = some b ∧ (∀ j, j < l.length → j < m.length → (eqv5 (l.getD j .non) (m.getD j .non)).isSome = true) ∧ dpL l ≤ 30 ∧ Q (.bl (!b)) H
/-- items that are the same values, or equal data -/
def Twin (K : PySem.W.Frag) (H : Hp) (x y : V) : Prop := (x = y ∧ noF x = true) ∨ ∃ d e, Dv (O5 K) H d x ∧ Dv (O5 K) H e y ∧ eqv5 d e = some true ∧ dp d ≤ 30
def rNeT (K : PySem.W.Frag) : R2 := fun x y H Q => ∃ a c us ws, x = .ref a ∧ y = .ref c ∧ SqT K H a us ∧ SqT K H c ws ∧ us.length = ws.length ∧ (∀ (j : Nat) (u w : V), us[j]? = some u → ws[j]? = some w → Twin K H u w) ∧ Q (.bl false) H
section
variable {X : Cx}
theorem getV {pins : List (Addr × Obj)} {σ : L2.St} {H : Hp} {s : Shared} (I : Inv X pins σ H s) {a : Addr} {us : List V} {l : List D5} {its : List Value} (pa : DvL (O5 X.K) H l us) (r1 : Vals us its) {j : Nat} (h1 : j < its.toArray.size) :
    ∃ w1, Dv (O5 X.K) H (l.getD j .non) w1 ∧ RelV w1 its.toArray[j] ∧ j < l.length ∧ l.getD j .non ∈ l := by
  have z1 : its.length = l.length := by rw [← r1.length]; exact pa.len
  have j1 : j < l.length := by rw [← z1]; simpa using h1
  obtain ⟨x, hx⟩ : ∃ x, l[j]? = some x := ⟨_, List.getElem?_eq_getElem j1⟩
  obtain ⟨w1, g1, k1⟩ := at_dv pa hx
  obtain ⟨i1, f1, rr1⟩ := r1.get g1
  have v1 : its.toArray[j] = i1 := by rw [List.getElem?_eq_getElem (by simpa using h1)] at f1; simpa using f1
  have ex : l.getD j .non = x := by rw [List.getD_eq_getElem?_getD, hx]; rfl
  rw [ex, v1]
  exact ⟨w1, k1, rr1, j1, List.mem_of_getElem? hx⟩
theorem op_eq5 (hu : X.A.units + 64 < cLine) : OpR X (compareOp .Eq) (rEq5 X.K) := by
  intro pins s σ H x y v u Q I rx ry h
  obtain ⟨l, m, b, ⟨a, us, rfl, ha, pa⟩, ⟨c, ws, rfl, hc, pc⟩, q, hd, k⟩ := h
  cases rx
  cases ry
  obtain ⟨its, r1, t1, _⟩ := I.tuple ha
  obtain ⟨its2, r2, t2, _⟩ := I.tuple hc
  have z1 : its.length = l.length := by rw [← r1.length]; exact pa.len
  have z2 : its2.length = m.length := by rw [← r2.length]; exact pc.len
  have tl : Tq.tell (eAt l m) its.toArray its2.toArray = b := by
    unfold Tq.tell
    rw [List.size_toArray, List.size_toArray, z1, z2]
    exact eqvL_tell l m b q
  have z := Tq.rc_tuples (A := X.A) t1 t2 (by omega) (e := eAt l m) fun j h1 h2 bef => by
    obtain ⟨w1, k1, rr1, j1, m1⟩ := getV (a := a) I pa r1 h1
    obtain ⟨w2, k2, rr2, j2, _⟩ := getV (a := c) I pc r2 h2
    obtain ⟨c2, ec⟩ := eqvL_ask l m b q j j1 j2 bef
    have ee : eAt l m j = c2 := by
      unfold eAt
      rw [ec]
      cases c2 <;> simp
    rw [ee]
    have := dpL_mem m1
    exact eqAt5 I (dp (l.getD j .non) + 1) _ _ w1 w2 _ _ c2 X.A.in1 (Nat.lt_succ_self _) k1 k2 rr1 rr2 ec (by show X.A.units + 1 + _ + 1 < cLine; omega)
  rw [tl] at z
  exact z X.prog X.w X.xe _ ⟨.bl b, H, I, rfl, k⟩
theorem op_ne5 (hu : X.A.units + 64 < cLine) : OpR X (compareOp .NotEq) (rNe5 X.K) := by
  intro pins s σ H x y v u Q I rx ry h
  obtain ⟨l, m, b, ⟨a, us, rfl, ha, pa⟩, ⟨c, ws, rfl, hc, pc⟩, q, kn, hd, k⟩ := h
  cases rx
  cases ry
  obtain ⟨its, r1, t1, _⟩ := I.tuple ha
  obtain ⟨its2, r2, t2, _⟩ := I.tuple hc
  have z1 : its.length = l.length := by rw [← r1.length]; exact pa.len
  have z2 : its2.length = m.length := by rw [← r2.length]; exact pc.len
  have z := SeqAt.RcNeAt.tuples (A := X.A) t1 t2 (by omega) (e := eAt l m) fun j h1 h2 => by
    obtain ⟨w1, k1, rr1, j1, m1⟩ := getV (a := a) I pa r1 h1
    obtain ⟨w2, k2, rr2, j2, _⟩ := getV (a := c) I pc r2 h2
    obtain ⟨c2, ec⟩ := Option.isSome_iff_exists.mp (kn j j1 j2)
    have ee : eAt l m j = c2 := by
      unfold eAt
      rw [ec]
      cases c2 <;> simp
    rw [ee]
    have := dpL_mem m1
    exact eqAt5 I (dp (l.getD j .non) + 1) _ _ w1 w2 _ _ c2 X.A.in1 (Nat.lt_succ_self _) k1 k2 rr1 rr2 ec (by show X.A.units + 1 + _ + 1 < cLine; omega)
  rw [List.size_toArray, List.size_toArray, z1, z2, eqvL_tell l m b q] at z
  exact z X.prog X.w X.xe _ ⟨.bl (!b), H, I, rfl, k⟩
theorem op_neT (hu : X.A.units + 64 < cLine) : OpR X (compareOp .NotEq) (rNeT X.K) := by
  intro pins s σ H x y v u Q I rx ry h
  obtain ⟨a, c, us, ws, rfl, rfl, ha, hc, hl, tw, k⟩ := h
  cases rx
  cases ry
  obtain ⟨its, r1, t1, _⟩ := I.tuple ha
  obtain ⟨its2, r2, t2, _⟩ := I.tuple hc
  have z1 : its.length = us.length := r1.length.symm
  have z2 : its2.length = ws.length := r2.length.symm
  have z := SeqAt.RcNeAt.tuples (A := X.A) t1 t2 (by omega) (e := fun _ => true) fun j h1 h2 => by
    have j1 : j < us.length := by rw [← z1]; simpa using h1
    have j2 : j < ws.length := by rw [← z2]; simpa using h2
    obtain ⟨i1, f1, rr1⟩ := r1.get (i := j) (List.getElem?_eq_getElem j1)
    obtain ⟨i2, f2, rr2⟩ := r2.get (i := j) (List.getElem?_eq_getElem j2)
    have v1 : its.toArray[j] = i1 := by rw [List.getElem?_eq_getElem (by simpa using h1)] at f1; simpa using f1
    have v2 : its2.toArray[j] = i2 := by rw [List.getElem?_eq_getElem (by simpa using h2)] at f2; simpa using f2
    rw [v1, v2]
    rcases tw j _ _ (List.getElem?_eq_getElem j1) (List.getElem?_eq_getElem j2) with ⟨e, nf⟩ | ⟨d, e, k1, k2, q, dd⟩
    · rw [← e] at rr2
      exact eqAt_self nf rr1 rr2
    · exact eqAt5 I (dp d + 1) d e _ _ _ _ true X.A.in1 (Nat.lt_succ_self _) k1 k2 rr1 rr2 q (by show X.A.units + 1 + dp d + 1 < cLine; omega)
  have e0 : ((List.range (min its.toArray.size its2.toArray.size)).all (fun _ => true) && its.toArray.size == its2.toArray.size) = true := by
    rw [List.size_toArray, List.size_toArray, z1, z2, hl]
    simp
  rw [e0] at z
  exact z X.prog X.w X.xe _ ⟨.bl false, H, I, rfl, k⟩
end
mutual
/-- plain data: leaves and tuples, by itself equal -/
def pln : D5 → Bool
  | .str _ => true
  | .int _ => true
  | .bl _ => true
  | .non => true
  | .tup l => plnL l
  | _ => false
def plnL : List D5 → Bool
  | [] => true
  | x :: l => pln x && plnL l
end
mutual
theorem eqv_self : ∀ d : D5, pln d = true → eqv5 d d = some true
  | .str x, _ => by rw [e5_str, strE, beq_self_eq_true]
  | .int x, _ => by rw [e5_int, intE, beq_self_eq_true]
  | .bl x, _ => by rw [e5_bl, blE, beq_self_eq_true]
  | .non, _ => by rw [e5_non, nonE]
  | .tup l, h => by rw [pln] at h; rw [e5_tt]; exact eqvL_self l h
theorem eqvL_self : ∀ l : List D5, plnL l = true → eqvL5 l l = some true
  | [], _ => e5L_nn
  | x :: l, h => by
    rw [plnL, Bool.and_eq_true] at h
    rw [e5L_cc, if_pos (eqv_self x h.1)]
    exact eqvL_self l h.2
end
theorem plnL_mem : ∀ {l : List D5}, plnL l = true → ∀ x ∈ l, pln x = true
  | y :: l, h, x, hx => by
    rw [plnL, Bool.and_eq_true] at h
    rcases List.mem_cons.mp hx with rfl | hx
    · exact h.1
    · exact plnL_mem h.2 x hx
mutual
theorem key_pln : ∀ d : D5, nol d = true → kpt [["x"], ["a", "b", "c", "id"], ["a", "b", "c", "id", "m"]] d = true → pln (keyD d) = true
  | .non, _, _ => rfl
  | .bl _, _, _ => rfl
  | .int _, _, _ => rfl
  | .str _, _, _ => rfl
  | .ob _, _, h => nomatch h
  | .lst _, h, _ => by cases h
  | .tup l, h, k => by rw [nol] at h; rw [kpt] at k; rw [keyD, pln, plnL, keyL_pln l h k]; rfl
  | .map ks l, h, k => by rw [nol] at h; rw [kpt, Bool.and_eq_true] at k; rw [keyD, pln, plnL, keyM_pln ks l h k.2]; rfl
theorem keyL_pln : ∀ l : List D5, nolL l = true → kptL [["x"], ["a", "b", "c", "id"], ["a", "b", "c", "id", "m"]] l = true → plnL (keyL l) = true
  | [], _, _ => by simp [keyL, plnL]
  | x :: l, h, k => by
    rw [nolL, Bool.and_eq_true] at h
    rw [kptL, Bool.and_eq_true] at k
    rw [keyL, plnL, key_pln x h.1 k.1, keyL_pln l h.2 k.2]
    rfl
theorem keyM_pln (ks : List Str) : ∀ l : List D5, nolL l = true → kptL [["x"], ["a", "b", "c", "id"], ["a", "b", "c", "id", "m"]] l = true → plnL (keyM ks l) = true
  | [], _, _ => by simp [keyM, plnL]
  | x :: l, h, k => by
    rw [nolL, Bool.and_eq_true] at h
    rw [kptL, Bool.and_eq_true] at k
    rw [keyM, plnL, pln, plnL, plnL, plnL, pln, key_pln x h.1 k.1, keyM_pln ks.tail l h.2 k.2]
    rfl
end
end Kd
namespace Ed
open PySem PySem.Spec PyProof.Rows L2 Dq Vl Kd
variable {K : PySem.W.Frag} {σ : L2.St} {H : Hp} {ta tb : TE}
theorem et_eq5 {l m : List D5} {b : Bool} (h : ED (O5 K) ta σ H (.tup l)) (h2 : ED (O5 K) tb σ H (.tup m)) (q : eqvL5 l m = some b) (hd : dpL l ≤ 30) : ET (tTest (tOp (rEq5 K) ta tb)) σ H b := fun H1 s Q k =>
  h H1 s _ fun v H2 s2 hv => h2 H2 (Same.trans s s2) _ fun u H3 s3 hu => ⟨l, m, b, (kps5 (K := K)).dv s3 hv, hu, q, hd, b, rfl, k H3 (Same.trans s2 s3)⟩
theorem et_ne5 {l m : List D5} {b : Bool} (h : ED (O5 K) ta σ H (.tup l)) (h2 : ED (O5 K) tb σ H (.tup m)) (q : eqvL5 l m = some b) (kn : ∀ j, j < l.length → j < m.length → (eqv5 (l.getD j .non) (m.getD j .non)).isSome = true) (hd : dpL l ≤ 30) : ET (tTest (tOp (rNe5 K) ta tb)) σ H (!b) := fun H1 s Q k =>
  h H1 s _ fun v H2 s2 hv => h2 H2 (Same.trans s s2) _ fun u H3 s3 hu => ⟨l, m, b, (kps5 (K := K)).dv s3 hv, hu, q, kn, hd, !b, rfl, k H3 (Same.trans s2 s3)⟩
/-- plain data that is equal -/
theorem et_neP {l : List D5} (h : ED (O5 K) ta σ H (.tup l)) (h2 : ED (O5 K) tb σ H (.tup l)) (p : plnL l = true) (hd : dpL l ≤ 30) : ET (tTest (tOp (rNe5 K) ta tb)) σ H false :=
  et_ne5 (b := true) h h2 (eqvL_self l p) (fun j h1 h2 => by
    rw [eqv_self _ (plnL_mem p _ (by rw [List.getD_eq_getElem?_getD, List.getElem?_eq_getElem h1]; exact List.getElem_mem h1))]
    rfl) hd
end Ed

set_option Elab.async false
set_option linter.all false
set_option maxRecDepth 100000
set_option maxHeartbeats 4000000
/-! a world, as data: its rows -/
namespace Kd
open PySem PySem.Spec PyProof.Rows L2 Dq Vl Pf Ed
structure Ro where
  kind : Str
  n : Nat
  a : D5
  b : D5
  c : D5
  mr : Option Nat
def tagOf (k : Str) (n : Nat) : D5 := .tup [.str "#", .str k, .int (n : Int)]
def tagR (r : Ro) : D5 := tagOf r.kind r.n
def mapR (r : Ro) : D5 := match r.mr with
  | none => .map ["a", "b", "c", "id"] [r.a, r.b, r.c, tagR r]
  | some m => .map ["a", "b", "c", "id", "m"] [r.a, r.b, r.c, tagR r, tagOf r.kind m]
def keyT (k : Str) (n : Nat) : List Key := [.inr "#", .inr k, .inl (n : Int)]
def keyR (r : Ro) : List Key := keyT r.kind r.n
/-- the rows as a dict by Tags -/
def Rws (K : PySem.W.Frag) (H : Hp) : List Ro → List (List Key × V) → Prop
  | [], kvs => kvs = []
  | r :: rs, kvs => ∃ v kvs', kvs = (keyR r, v) :: kvs' ∧ Dv (O5 K) H (mapR r) v ∧ Rws K H rs kvs'
def isRow (k : Str) (n : Nat) (r : Ro) : Bool := decide (r.kind = k) && decide (r.n = n)
def findR (rows : List Ro) (k : Str) (n : Nat) : Option Ro := rows.find? (isRow k n)
theorem keyT_eq {k k' : Str} {n n' : Nat} : decide (keyT k n = keyT k' n') = (decide (k = k') && decide (n = n')) := by
  rw [Bool.eq_iff_iff]
  simp [keyT]
  intro _
  omega
theorem rws_get {K : PySem.W.Frag} {H : Hp} : ∀ {rows : List Ro} {kvs : List (List Key × V)} (k : Str) (n : Nat), Rws K H rows kvs →
    (findR rows k n = none → valV kvs (keyT k n) = none) ∧ ∀ r, findR rows k n = some r → ∃ v, valV kvs (keyT k n) = some v ∧ Dv (O5 K) H (mapR r) v
  | [], _, k, n, h => by cases h; exact ⟨fun _ => rfl, fun r h => nomatch h⟩
  | r :: rs, _, k, n, ⟨v, kvs, e, h, p⟩ => by
    subst e
    obtain ⟨i1, i2⟩ := rws_get k n p
    unfold findR valV at *
    rw [List.find?_cons, List.find?_cons]
    have e : decide ((keyR r, v).1 = keyT k n) = isRow k n r := keyT_eq
    rw [e]
    cases isRow k n r with
    | true => exact ⟨fun h => (nomatch h), fun r' h => by cases h; exact ⟨v, rfl, ‹_›⟩⟩
    | false => exact ⟨i1, i2⟩
theorem Rws.len {K : PySem.W.Frag} {H : Hp} : ∀ {rows : List Ro} {kvs : List (List Key × V)}, Rws K H rows kvs → kvs.length = rows.length
  | [], _, h => by cases h; rfl
  | r :: rs, _, ⟨v, kvs, e, h, p⟩ => by subst e; exact congrArg (· + 1) p.len
theorem Rws.app {K : PySem.W.Frag} {H : Hp} {r : Ro} {v : V} (hv : Dv (O5 K) H (mapR r) v) : ∀ {rows : List Ro} {kvs : List (List Key × V)}, Rws K H rows kvs → Rws K H (rows ++ [r]) (kvs ++ [(keyR r, v)])
  | [], _, h => by cases h; exact ⟨v, [], rfl, hv, rfl⟩
  | r' :: rs, _, ⟨v', kvs, e, h, p⟩ => by subst e; exact ⟨v', _, rfl, h, Rws.app hv p⟩
theorem Rws.get {K : PySem.W.Frag} {H : Hp} : ∀ {rows : List Ro} {kvs : List (List Key × V)} {i : Nat} {k : List Key} {v : V}, Rws K H rows kvs → kvs[i]? = some (k, v) → ∃ r, rows[i]? = some r ∧ k = keyR r ∧ Dv (O5 K) H (mapR r) v
  | [], _, i, k, v, h, e => by cases h; cases e
  | r :: rs, _, 0, k, v, ⟨v', kvs, e, h, p⟩, q => by subst e; cases q; exact ⟨r, rfl, rfl, h⟩
  | r :: rs, _, i + 1, k, v, ⟨v', kvs, e, h, p⟩, q => by
    subst e
    obtain ⟨r', h1, h2⟩ := p.get (i := i) (by simpa using q)
    exact ⟨r', by simpa using h1, h2⟩
/-- what _tags_in takes -/
def okTI : D5 → Bool
  | .tup l => okTag (.tup l) && (l.all okTag && decide (l.length ≤ 1000))
  | d => okTag d
/-- a value that may stand in a row -/
def okV (d : D5) : Bool := okTI d && (lay 4 d && (lyk 4 d && (kpt [["x"]] d && (nol d && decide (dp (keyD d) ≤ 8)))))
structure OkR (r : Ro) : Prop where
  a : okV r.a = true
  b : okV r.b = true
  c : okV r.c = true
  k : nmS r.kind = true
  n : 1 ≤ r.n
theorem Rws.mono {K : PySem.W.Frag} {H H' : Hp} (f : ∀ r v, OkR r → Dv (O5 K) H (mapR r) v → Dv (O5 K) H' (mapR r) v) : ∀ {rows : List Ro} {kvs : List (List Key × V)}, (∀ r ∈ rows, OkR r) → Rws K H rows kvs → Rws K H' rows kvs
  | [], _, _, h => h
  | r :: rs, _, o, ⟨v, kvs, e, h, p⟩ => ⟨v, kvs, e, f r v (o r List.mem_cons_self) h, Rws.mono f (fun r' hr => o r' (List.mem_cons_of_mem _ hr)) p⟩
theorem Rws.same {K : PySem.W.Frag} {H H' : Hp} (s : Same H H') : ∀ {rows : List Ro} {kvs : List (List Key × V)}, Rws K H rows kvs → Rws K H' rows kvs
  | [], _, h => h
  | r :: rs, _, ⟨v, kvs, e, h, p⟩ => ⟨v, kvs, e, (kps5 (K := K)).dv s h, Rws.same s p⟩
def Kmaps : List (List Str) := [["x"], ["a", "b", "c", "id"], ["a", "b", "c", "id", "m"]]
theorem kpt_mono {Ks Ls : List (List Str)} (h : ∀ k ∈ Ks, k ∈ Ls) : ∀ d : D5, kpt Ks d = true → kpt Ls d = true := by
  have main : ∀ (n : Nat) (d : D5), sizeOf d ≤ n → kpt Ks d = true → kpt Ls d = true := by
    intro n
    induction n with
    | zero => intro d hn; cases d <;> simp at hn
    | succ n ih =>
      have go : ∀ l : List D5, sizeOf l ≤ n → kptL Ks l = true → kptL Ls l = true := by
        intro l
        induction l with
        | nil => intro _ _; simp [kptL]
        | cons x l ih2 =>
          intro hn k
          simp only [List.cons.sizeOf_spec] at hn
          rw [kptL, Bool.and_eq_true] at k
          rw [kptL, ih x (by omega) k.1, ih2 (by omega) k.2]
          rfl
      intro d hn k
      cases d with
      | tup l => rw [kpt] at k ⊢; exact go l (by simp at hn; omega) k
      | map ks l =>
        rw [kpt, Bool.and_eq_true, decide_eq_true_eq] at k
        rw [kpt, decide_eq_true (h _ k.1), go l (by simp at hn; omega) k.2]
        rfl
      | lst l => cases k
      | ob o => cases k
      | _ => rfl
  exact fun d => main _ d (Nat.le_refl _)
theorem okV_parts {d : D5} (h : okV d = true) : lay 4 d = true ∧ lyk 4 d = true ∧ kpt [["x"]] d = true ∧ nol d = true ∧ dp (keyD d) ≤ 8 := by
  simp only [okV, Bool.and_eq_true, decide_eq_true_eq] at h
  exact ⟨h.2.1, h.2.2.1, h.2.2.2.1, h.2.2.2.2.1, h.2.2.2.2.2⟩
theorem okV_ti {d : D5} (h : okV d = true) : okTI d = true := by
  simp only [okV, Bool.and_eq_true, decide_eq_true_eq] at h
  exact h.1
theorem mapR_kpt {r : Ro} (o : OkR r) : kpt Kmaps (mapR r) = true := by
  have f : ∀ d, okV d = true → kpt Kmaps d = true := fun d h => kpt_mono (by simp [Kmaps]) d (okV_parts h).2.2.1
  have m1 : decide ((["a", "b", "c", "id"] : List Str) ∈ Kmaps) = true := by decide +kernel
  have m2 : decide ((["a", "b", "c", "id", "m"] : List Str) ∈ Kmaps) = true := by decide +kernel
  unfold mapR
  cases r.mr with
  | none => simp only [kpt, kptL, f _ o.a, f _ o.b, f _ o.c, m1, tagR, tagOf, Bool.and_true]
  | some m => simp only [kpt, kptL, f _ o.a, f _ o.b, f _ o.c, m2, tagR, tagOf, Bool.and_true]
/-- the rows stay where what changes holds no data of theirs -/
theorem Rws.ch {K : PySem.W.Frag} {H H' : Hp} {S : List Addr} (k : Ch S H H') (al : ∀ a ∈ S, ∀ o, H a = some o → Alien Kmaps o) {rows : List Ro} {kvs : List (List Key × V)} (o : ∀ r ∈ rows, OkR r) (h : Rws K H rows kvs) : Rws K H' rows kvs :=
  Rws.mono (fun r v or hv => Dv.ch k al _ _ (mapR_kpt or) hv) o h
end Kd

set_option Elab.async false
set_option linter.all false
set_option maxRecDepth 100000
set_option maxHeartbeats 4000000
/-! World: __init__, _has, _refuse_gone -/
namespace Kd
open PySem PySem.Spec PyProof.Rows L2 Dq Vl Pf Ed ClX
abbrev wfl (kd sd : Addr) (last : Int) : List (Str × V) := [("_kinds", .ref kd), ("_standing", .ref sd), ("_last", .int last)]
theorem wf2 (a b : V) : putF "_standing" b (putF "_kinds" a []) = ([("_kinds", a), ("_standing", b)] : List (Str × V)) := by rw [putF_nil, putF_tl (by decide +kernel), putF_nil]
theorem wf3 (a b c : V) : putF "_last" c [("_kinds", a), ("_standing", b)] = ([("_kinds", a), ("_standing", b), ("_last", c)] : List (Str × V)) := by rw [putF_tl (by decide +kernel), putF_tl (by decide +kernel), putF_nil]
theorem wl1 {kd sd : Addr} {n : Int} : (wfl kd sd n).lookup ("_kinds" : Str) = some (.ref kd) := lk_hd
theorem wl2 {kd sd : Addr} {n : Int} : (wfl kd sd n).lookup ("_standing" : Str) = some (.ref sd) := (lk_tl (by decide +kernel)).trans lk_hd
theorem wl3 {kd sd : Addr} {n : Int} : (wfl kd sd n).lookup ("_last" : Str) = some (.int n) := (lk_tl (by decide +kernel)).trans ((lk_tl (by decide +kernel)).trans lk_hd)
structure TxtW (K : PySem.W.Frag) (mg : Str → Option Value) (CW : Addr) : Prop where
  cl : Cls K CW
  n1 : NoAttr K CW "_kinds"
  n2 : NoAttr K CW "_standing"
  n3 : NoAttr K CW "_last"
  g : mg "World" = some (.ref CW)
/-- a world stands -/
structure WAt (K : PySem.W.Frag) (CW : Addr) (H : Hp) (aw kd sd : Addr) (rows : List Ro) (last : Int) : Prop where
  w : ∃ dx, H aw = some (.ins CW dx (wfl kd sd last))
  s : ∃ kvs, H sd = some (.dT kvs) ∧ Rws K H rows kvs
theorem WAt.same {K : PySem.W.Frag} {CW : Addr} {H H' : Hp} {aw kd sd : Addr} {rows : List Ro} {last : Int} (h : WAt K CW H aw kd sd rows last) (s : Same H H') : WAt K CW H' aw kd sd rows last := by
  obtain ⟨dx, e⟩ := h.w
  obtain ⟨kvs, e2, r⟩ := h.s
  exact ⟨⟨dx, s _ _ e⟩, kvs, s _ _ e2, r.same s⟩
abbrev sWI : Stmt := inClass (tp 34) 0
abbrev NWI : List Str := ["self", "kinds", "name"]
theorem scWI : FnScope NWI ["self", "kinds"] (defScope sWI) := ⟨rfl, rfl, rfl, by decide +kernel, rfl, by decide +kernel, by decide +kernel⟩
def spWI (K : PySem.W.Frag) (CW : Addr) : Sp := fun vs H Q _ => ∃ (aw dx kk : Addr) (kvs : List (Key × V)), vs = [.ref aw, .ref kk] ∧ H aw = some (.ins CW dx []) ∧ H kk = some (.dK kvs) ∧ (kvs.map (·.1)).Nodup ∧ kvs.length ≤ 1000 ∧
  ∀ (kd sd : Addr) (H' : Hp), H kd = none → H sd = none → Ch [aw] H H' → H' kd = some (.dK kvs) → WAt K CW H' aw kd sd [] 0 → Q .non H'
/-- what is_tag tells, and a Tag that stands -/
structure TArg (K : PySem.W.Frag) (H : Hp) (d : D5) (v : V) : Prop where
  dv : Dv (O5 K) H d v
  ok : okTag d = true
  tg : tagD d = true → ∃ b k n, v = .ref b ∧ H b = some (.tup [.str "#", .str k, .int ((n : Nat) : Int)]) ∧ d = tagOf k n
theorem TArg.same {K : PySem.W.Frag} {H H' : Hp} {d : D5} {v : V} (h : TArg K H d v) (s : Same H H') : TArg K H' d v := ⟨(kps5 (K := K)).dv s h.dv, h.ok, fun e => by
  obtain ⟨b, k, n, e1, e2, e3⟩ := h.tg e
  exact ⟨b, k, n, e1, s _ _ e2, e3⟩⟩
/-- the row that a thing names -/
def rowD (rows : List Ro) : D5 → Option Ro
  | .tup [.str _, .str k, .int n] => if 0 ≤ n then findR rows k n.toNat else none
  | _ => none
def hasD (rows : List Ro) (d : D5) : Bool := tagD d && (rowD rows d).isSome
theorem rowD_tag {rows : List Ro} {k : Str} {n : Nat} : rowD rows (tagOf k n) = findR rows k n := by
  show (if (0 : Int) ≤ (n : Int) then findR rows k (n : Int).toNat else none) = _
  rw [if_pos (by omega), Int.toNat_natCast]
abbrev sHas : Stmt := inClass (tp 34) 8
theorem scHas : FnScope ["self", "tag"] ["self", "tag"] (defScope sHas) := ⟨rfl, rfl, rfl, by decide +kernel, rfl, by decide +kernel, by decide +kernel⟩
def spHas (K : PySem.W.Frag) (CW : Addr) : Sp := fun vs H Q _ => ∃ (aw kd sd : Addr) (v : V) (d : D5) (rows : List Ro) (last : Int), vs = [.ref aw, v] ∧ WAt K CW H aw kd sd rows last ∧ TArg K H d v ∧ ∀ H', Same H H' → Q (.bl (hasD rows d)) H'
abbrev sRG : Stmt := inClass (tp 34) 9
theorem scRG : FnScope ["self", "tag"] ["self", "tag"] (defScope sRG) := ⟨rfl, rfl, rfl, by decide +kernel, rfl, by decide +kernel, by decide +kernel⟩
def spRG (K : PySem.W.Frag) (CW CG : Addr) : Sp := fun vs H Q E => ∃ (aw kd sd : Addr) (v : V) (d : D5) (rows : List Ro) (last : Int), vs = [.ref aw, v] ∧ WAt K CW H aw kd sd rows last ∧ TArg K H d v ∧
  (hasD rows d = true → ∀ H', Same H H' → Q .non H') ∧ (hasD rows d = false → ∀ (e p : Addr) (H' : Hp), Same H H' → H' e = some (.xd [("tag", v), ("told", .ref p)]) → E (.ref CG) (some e) H')
section
variable {P : Program} {w : World} {K : PySem.W.Frag} {mg : Str → Option Value} {base : Heap} {CW CG fX : Addr}
theorem ok_wi {f : Addr} {fd : FuncData} (F : Fun K "__init__" "World.__init__" sWI f fd) (T : TxtW K mg CW) : FnOk P w K mg base CX0 1 f fd ["self", "kinds"] (spWI K CW) := by
  refine F.ok scWI (fun vs H Q E h => ?_) (fun cdv A outer s H vs Q E hr h => ?_)
  · obtain ⟨aw, dx, kk, kvs, rfl, _⟩ := h
    rfl
  · obtain ⟨aw, dx, kk, kvs, rfl, hw, hk, nd, hl, q⟩ := h
    refine ⟨_, pss_cons (ps_fld (pv 0) (pe_lock (pe_dc (own := [("name", 2)]) (g := gName 2) (tt := tYes) rfl scWI.nd (pi_keys (pv 1)) (blkOk_by (N := NWI) (sc := defScope sWI) (by decide +kernel)) (fun _ _ _ _ _ => pg_name (i := 2) scWI.nd rfl (Or.inl rfl)) (fun _ _ _ _ _ => pts_nil) (fun _ _ _ _ _ => pv 2)
          (fun _ _ _ _ _ => pe_dget (hu_of hr) (pv 1) (pv 2) (fun _ _ => rfl)))) rfl)
      (pss_cons (ps_fld (pv 0) pe_dnewT rfl) (pss_one (ps_fld (pv 0) pe_int rfl))), ?_⟩
    refine ⟨kk, .dK kvs, hk, True.intro, fun od => ⟨_, rfl, kk, od, rfl, .inl ⟨kvs, upd_same, fun D hD => ?_⟩⟩⟩
    have nDk : D ≠ kk := fun e => by rw [e, upd_same] at hD; cases hD
    have hD0 : H D = none := by rwa [upd_ne nDk] at hD
    have nwk : aw ≠ kk := fun e => by rw [e, hk] at hw; cases hw
    refine Sd.dc_it (walk_keys (d := kk) (o := od) (kvs := kvs)) (fun i H' => (H' kk = some (.frz od (.dK kvs)) ∧ Ch [kk] H H') ∧ H' D = some (.dK (kvs.take i)))
      ⟨⟨(upd_ne (Ne.symm nDk)).trans upd_same, Ch.updNew (Ch.upd (by simp)) hD0⟩, upd_same⟩ (fun i H' _ h => h.1.1) (fun i x H2 H3 hlt h y => ?_) (fun H2 h => ?_)
    · obtain ⟨⟨e1, e2⟩, e3⟩ := h
      obtain ⟨rfl, k, v, e6, rfl⟩ := y
      refine ⟨rfl, _, rfl, _, rfl, _, rfl, kk, v, rfl, .inl ⟨kvs, k, .inr ⟨od, e1⟩, rfl, (find_at nd e6).symm⟩, kvs.take i, k, rfl, e3, Nat.lt_of_le_of_lt (Nat.le_trans (List.length_take_le' _ _) hl) (show 1000 < sizeLine by decide), ⟨(upd_ne (Ne.symm nDk)).trans e1, Ch.updNew e2 hD0⟩, ?_⟩
      rw [upd_same]
      have nz : valV (kvs.take i) k = none := by
        unfold valV
        rw [Option.map_eq_none_iff, List.find?_eq_none]
        intro p hp
        simp only [decide_eq_true_eq]
        intro q2
        have hi : i < kvs.length := (List.getElem?_eq_some_iff.mp e6).1
        have nn := nd
        rw [← List.take_append_drop i kvs, List.map_append] at nn
        refine (List.nodup_append.mp nn).2.2 p.1 (List.mem_map_of_mem (f := (·.1)) hp) k ?_ q2
        rw [List.drop_eq_getElem_cons hi, (List.getElem?_eq_some_iff.mp e6).2]
        exact List.mem_cons_self
      rw [putK_new v nz, take_succ' e6]
    · obtain ⟨⟨e1, e2⟩, e3⟩ := h
      rw [List.take_length] at e3
      have c3 : Ch [] H (upd H2 kk (.dK kvs)) := fun c o e _ => by
        by_cases n : c = kk
        · subst n
          rw [hk] at e
          cases e
          exact upd_same
        · exact (upd_ne n).trans (e2 c o e (by simpa using n))
      have hw3 := c3 _ _ hw (by simp)
      have hD3 : (upd H2 kk (.dK kvs)) D = some (.dK kvs) := (upd_ne nDk).trans e3
      refine ⟨e1, ?_⟩
      generalize upd H2 kk (.dK kvs) = H3 at c3 hw3 hD3
      refine ⟨_, rfl, aw, CW, dx, [], rfl, hw3, T.cl, T.n1, by show 0 < 1000; decide, fun S nS => ⟨_, rfl, aw, CW, dx, [("_kinds", .ref D)], rfl, ?_, T.cl, T.n2, by show 1 < 1000; decide, ?_⟩⟩
      · exact (upd_ne fun e => by rw [← e, upd_same] at nS; cases nS).trans upd_same
      rw [show putF "_standing" (V.ref S) [(("_kinds" : Str), V.ref D)] = [(("_kinds" : Str), V.ref D), ("_standing", V.ref S)] from wf2 _ _]
      refine ⟨_, rfl, aw, CW, dx, _, rfl, upd_same, T.cl, T.n3, by show 2 < 1000; decide, ?_⟩
      rw [wf3]
      have nSw : S ≠ aw := fun e => by rw [e, upd_same] at nS; cases nS
      have nDw : D ≠ aw := fun e => by rw [e, hw] at hD0; cases hD0
      have nDS : D ≠ S := fun e => by rw [← e, upd_ne nDw, hD3] at nS; cases nS
      have hS : H S = none := by
        cases e : H S with
        | none => rfl
        | some o => rw [upd_ne nSw, c3 _ _ e (by simp)] at nS; cases nS
      refine q D S _ hD0 hS (fun c o e n => ?_) ?_ ⟨⟨dx, upd_same⟩, [], ?_, rfl⟩
      · have nc : c ≠ aw := by simpa using n
        rw [upd_ne nc, upd_ne nc, upd_ne (ne_of_none e hS), upd_ne nc]
        exact c3 c o e (by simp)
      · rw [upd_ne nDw, upd_ne nDw, upd_ne nDS, upd_ne nDw]
        exact hD3
      · rw [upd_ne nSw, upd_ne nSw, upd_same]
theorem eb_has {K : PySem.W.Frag} {ty td : TE} {σ : L2.St} {H : Hp} {rows : List Ro} {kvs : List (List Key × V)} {sd b : Addr} {k : Str} {n : Nat} (h : EP ty σ H fun v H => v = .ref b ∧ H b = some (.tup [.str "#", .str k, .int (n : Int)])) (h2 : EP td σ H fun v H => v = .ref sd ∧ H sd = some (.dT kvs)) (r : Rws K H rows kvs) :
    EB (tDIn ty td) σ H (findR rows k n).isSome := fun H1 s Q q => h H1 s _ fun v H2 s2 ⟨ev, eb⟩ => h2 H2 (Same.trans s s2) _ fun u H3 s3 ⟨eu, es⟩ => by
  subst ev eu
  obtain ⟨g1, g2⟩ := rws_get k n r
  refine ⟨sd, _, rfl, DGet.t (k := keyT k n) es (s3 _ _ eb), ?_⟩
  cases e : findR rows k n with
  | none => rw [e] at q; rw [g1 e]; exact q _ H3 (Same.trans s2 s3) rfl
  | some r =>
    obtain ⟨v, ev, _⟩ := g2 r e
    rw [e] at q
    rw [ev]
    exact q _ H3 (Same.trans s2 s3) rfl
theorem ok_has {f fT : Addr} {fd fdT : FuncData} (F : Fun K "_has" "World._has" sHas f fd) (T : TxtW K mg CW) (DT : Def P w K mg base 2 "is_tag" fT fdT ["thing"] (spV K okTag tagD)) : FnOk P w K mg base CX0 3 f fd ["self", "tag"] (spHas K CW) := by
  refine F.ok scHas (fun vs H Q E h => ?_) (fun cdv A outer s H vs Q E hr h => ?_)
  · obtain ⟨aw, kd, sd, v, d, rows, last, rfl, _⟩ := h
    rfl
  · obtain ⟨aw, kd, sd, v, d, rows, last, rfl, hw, hv, q⟩ := h
    refine ⟨_, pss_one (ps_ret (pe_and (pe_call DT.ok hr rfl DT.g DT.kp DT.b .nil pass0 (pa_cons (pv 1) pa_nil)) (pe_one (pe_cmp (pc_din (hu_of hr) (pv 1) (pe_fld (pv 0) rfl)) rfl)))), ?_⟩
    have P := kps5 (K := K)
    obtain ⟨dx, ew⟩ := hw.w
    obtain ⟨kvs, es, r⟩ := hw.s
    refine EP.ret (eb_and (b := tagD d) (c := (rowD rows d).isSome) (fun H1 s1 Q1 q1 => ⟨_, rfl, v, d, rfl, P.dv s1 hv.dv, hv.ok, fun H2 s2 => q1 _ H2 s2 rfl⟩) fun et => ?_) fun u H1 s1 e => ?_
    · obtain ⟨b, k, n, e1, e2, e3⟩ := hv.tg et
      rw [e3, rowD_tag]
      exact eb_has (sd := sd) (kvs := kvs) (b := b) (fun H1 s1 Q1 q1 => ⟨_, rfl, q1 v H1 (Same.refl _) ⟨e1, s1 _ _ e2⟩⟩) (fun H1 s1 Q1 q1 => ⟨_, rfl, aw, CW, dx, _, _, rfl, s1 _ _ ew, T.cl, T.n2, wl2, q1 _ H1 (Same.refl _) ⟨rfl, s1 _ _ es⟩⟩) r
    · rw [e]
      exact q H1 s1
theorem ok_rg {f fH : Addr} {fd fdH : FuncData} (F : Fun K "_refuse_gone" "World._refuse_gone" sRG f fd) (T : TxtW K mg CW) (M : Meth K CW "_has" fH) (GH : FnOk P w K mg base CX0 3 fH fdH ["self", "tag"] (spHas K CW)) (bH : Binds K fdH ["self", "tag"] []) (TX : TxtX P w K mg base "Gone" CG "tag" fX) :
    FnOk P w K mg base (L2.CX P w) 5 f fd ["self", "tag"] (spRG K CW CG) := by
  refine F.okX scRG (fun vs H Q E h => ?_) (fun cdv A outer s H vs Q E hr h => ?_)
  · obtain ⟨aw, kd, sd, v, d, rows, last, rfl, _⟩ := h
    rfl
  · obtain ⟨aw, kd, sd, v, d, rows, last, rfl, hw, hv, q1, q2⟩ := h
    obtain ⟨dx, ew⟩ := hw.w
    refine ⟨_, pss_one (ps_if (pt_not (pt_val (pe_meth (pv 0) T.cl M GH (hr.mono (by decide)) bH .nil pass0 (pa_cons (pv 1) pa_nil)))) (pss_one (Sup.ps_rz rfl rfl (takes_of rfl rfl rfl rfl) TX.oex (raises_own TX.oex.exC TX.oex.tyC) TX.iC TX.tI TX.F (by decide) (hr.mono (by decide)) rfl TX.mg (pa_cons (pv 1) pa_nil))) pss_nil), ?_⟩
    have lkn : (wfl kd sd last).lookup ("_has" : Str) = none := (lk_tl (by decide +kernel)).trans ((lk_tl (by decide +kernel)).trans ((lk_tl (by decide +kernel)).trans rfl))
    refine ⟨_, rfl, aw, dx, _, rfl, ew, lkn, _, rfl, aw, kd, sd, v, d, rows, last, rfl, hw, hv, fun H1 s1 => ⟨_, rfl, ?_⟩⟩
    cases eh : hasD rows d with
    | true => exact Vl.iteN rfl (q1 eh H1 s1)
    | false =>
      refine Vl.iteC rfl ⟨_, rfl, rfl, (fun b o e => by rw [s1 _ _ e]; simp), fun e p H' n1 k2 ee => q2 eh e p H' (Same.trans s1 k2) ee⟩
end
end Kd

set_option Elab.async false
set_option linter.all false
set_option maxRecDepth 100000
set_option maxHeartbeats 4000000
/-! d.get(y), where y may be None; _as_chosen, _tags_in -/
namespace L2
open PySem PySem.Spec PyProof.Rows
/-- d.get(None) on a dict without None -/
def tDGetN (td ty : TE) : TE := fun σ H Q => td σ H fun x H1 => ∃ a, x = .ref a ∧ IsD H1 a ∧ ty σ H1 fun y H2 => ∃ kvs, y = .non ∧ Rd H2 a (.dK kvs) ∧ Q .non H2
section
variable {X : Cx} {pins : List (Addr × Obj)} {σ : St} {H : Hp} {s : Shared} {a : Addr} {kvs : List (Key × V)} {A : Around} {E : Value → Shared → Prop}
theorem d_getNone {Q : Value → Shared → Prop} (I : Inv X pins σ H s) (e : Rd H a (.dK kvs)) (h : ∀ s', Inv X pins σ H s' → Q .none s') : wpAny (model X.prog X.w) A (call (.builtin "dict.get") [.ref a, .none]) Q E s := by
  obtain ⟨z, hd, vs, rel, dd⟩ := dk_rd I.hok e
  obtain ⟨f, hm, hf⟩ := none_map dd
  refine call_meetsIn PySem.F.slot_dict_get dd.typeIs PySem.F.entry_dict_get (PySem.F.args_dict_get_2 _ _) (meets_dict_get (noneKind X.prog X.w) (d := a) (k := none) (key := .none) rfl hd) ⟨f, hm, ?_⟩
  rw [hf]
  exact h _ (I.tok _)
end
section
variable {X : Cx} {o e f : Expr} {apos cpos : Pos} {td ty tx : TE}
theorem pe_dgetN (ho : PE X o td) (he : PE X e ty) (m : M1 X o "get" apos e cpos) : PE X (.Call (.Attribute o "get" apos) [e] [] cpos) (tDGetN td ty) := by
  refine ⟨fun pins s σ H Q I h => ?_⟩
  refine wpAny_Call_method m.base m.few m.line PySem.F.plainAttrs_dict PySem.F.slot_dict_get PySem.F.type_dict_get (thn (ho.run pins s σ H _ I h) fun u s1 ⟨x, H1, I1, rx, a, ex, d, q1⟩ => ?_)
  subst ex
  obtain rfl : u = Value.ref a := rx
  obtain ⟨t1, t2, _⟩ := isD_at I1 d
  refine ⟨t1, t2, ?_⟩
  rw [m.trees]
  refine Calls.callWith_builtin rfl (Calls.evalArgs_plain (Calls.spliced_cons (thn (he.run pins s1 σ H1 _ I1 q1) fun iv s2 ⟨y, H2, I2, ry, kvs, ey, g, q2⟩ => Calls.spliced_nil ?_)))
  subst ey
  obtain rfl : iv = Value.none := ry
  exact d_getNone I2 g fun s3 I3 => ⟨.non, H2, I3, rfl, q2⟩
end
end L2
namespace Ed
open PySem PySem.Spec PyProof.Rows L2 Dq Vl Kd
variable {K : PySem.W.Frag} {σ : L2.St} {H : Hp} {te ta tb : TE}
theorem EB.ed {b : Bool} (h : EB te σ H b) : ED (O5 K) te σ H (.bl b) := fun H1 s Q k => h H1 s Q fun v H2 s2 e => k v H2 s2 e
theorem dvl_bls {H : Hp} : ∀ {l : List D5} {us : List V} {p : D5 → Bool}, DvL (O5 K) H (l.map fun x => .bl (p x)) us → us = (l.map p).map V.bl
  | [], _, _, h => h
  | x :: l, _, p, ⟨u, us, e, h, r⟩ => by
    rw [e, dvl_bls r, show u = V.bl (p x) from h]
    rfl
/-- all([..]) of truth values -/
theorem eb_all {l : List D5} {p : D5 → Bool} (h : ED (O5 K) te σ H (.lst (l.map fun x => .bl (p x)))) : EB (tCB (rAll K) (tCons te tNil)) σ H (l.all p) := fun H1 s Q k =>
  h H1 s _ fun v H2 s2 ⟨a, us, e, ha, hu⟩ => ⟨a, l.map p, by rw [e], SqL.of (by rw [← dvl_bls hu]; exact ha), k _ H2 s2 (by rw [List.all_map]; rfl)⟩
end Ed
namespace Kd
open PySem PySem.Spec PyProof.Rows L2 Dq Vl Pf Ed
abbrev sAC : Stmt := tp 35
theorem scAC : FnScope ["value", "sort"] ["value", "sort"] (defScope sAC) := ⟨rfl, rfl, rfl, by decide +kernel, rfl, by decide +kernel, by decide +kernel⟩
def spAC : Sp := fun vs H Q _ => ∃ v, vs = [v, .str "open"] ∧ ∀ H', Same H H' → Q v H'
abbrev sTI : Stmt := tp 37
theorem scTI : FnScope ["value", "part"] ["value"] (defScope sTI) := ⟨rfl, rfl, rfl, by decide +kernel, rfl, by decide +kernel, by decide +kernel⟩
def tagsL : D5 → List D5
  | .tup l => if tagD (.tup l) then [.tup l] else if l.all tagD then l else []
  | _ => []
def spTI (K : PySem.W.Frag) : Sp := fun vs H Q _ => ∃ v d, vs = [v] ∧ Dv (O5 K) H d v ∧ okTI d = true ∧ nol d = true ∧ ∀ v' H', Same H H' → Dv (O5 K) H' (.lst (tagsL d)) v' → Q v' H'
section
variable {P : Program} {w : World} {K : PySem.W.Frag} {mg : Str → Option Value} {base : Heap}
theorem ok_ac {f : Addr} {fd : FuncData} (F : Fun K "_as_chosen" "_as_chosen" sAC f fd) : FnOk P w K mg base CX0 1 f fd ["value", "sort"] spAC := by
  refine F.ok scAC (fun vs H Q E h => ?_) (fun cdv A outer s H vs Q E hr h => ?_)
  · obtain ⟨v, rfl, _⟩ := h
    rfl
  · obtain ⟨v, rfl, q⟩ := h
    refine ⟨_, pss_one (ps_ret (pe_ifExp (PW.pt (pw_and (pt_cmpR op_eq (pv 1) pe_str (nomark _)) (pw_and1 (pt_cmp (pc_isN (pv 0)))))) pe_str (pv 0))), ?_⟩
    refine ⟨_, rfl, rfl, _, rfl, Vl.iteN (c := decide (V.str "open" = V.str "filled")) (by decide +kernel) ?_⟩
    exact Vl.iteN rfl ⟨_, rfl, q H (Same.refl H)⟩
theorem ok_ti {f fT : Addr} {fd fdT : FuncData} (F : Fun K "_tags_in" "_tags_in" sTI f fd) (T : TxtV mg) (DT : Def P w K mg base 2 "is_tag" fT fdT ["thing"] (spV K okTag tagD)) : FnOk P w K mg base CX0 3 f fd ["value"] (spTI K) := by
  refine F.ok scTI (fun vs H Q E h => ?_) (fun cdv A outer s H vs Q E hr h => ?_)
  · obtain ⟨v, d, rfl, _⟩ := h
    rfl
  · obtain ⟨v, d, rfl, hd, ok, nl, q⟩ := h
    have P := kps5 (K := K)
    have h0 : ∀ {σ : L2.St} {H' : Hp}, σ[0]? = some (some v) → Same H H' → ED (O5 K) (tVar 0) σ H' d := fun e s => ed_pv P e (P.dv s hd)
    have is_tag : ∀ {σ : L2.St} {H' : Hp} {i : Nat} {u : V} {x : D5}, σ[i]? = some (some u) → Dv (O5 K) H' x u → okTag x = true → EB (tCall (spV K okTag tagD) [] E0 (tCons (tVar i) tNil)) σ H' (tagD x) := fun e hu ox H2 s2 Q2 q2 => ⟨_, e, _, _, rfl, P.dv s2 hu, ox, fun H3 s3 => q2 _ H3 s3 rfl⟩
    have okd : okTag d = true := by
      cases d with
      | tup l => simp only [okTI, Bool.and_eq_true] at ok; exact ok.1
      | _ => exact ok
    refine ⟨_, pss_cons (ps_if (pt_val (pe_call DT.ok (hr.mono (by decide)) rfl DT.g DT.kp DT.b .nil pass0 (pa_cons (pv 0) pa_nil))) (pss_one (ps_ret (pe_lst (pa_cons (pv 0) pa_nil)))) pss_nil)
      (pss_cons (ps_if (PW.pt (pw_and (pt_val (pe_callB (call_is6 (T := "tuple") (by simp)) (by rfl) T.isi (by decide +kernel) (pa_cons (pv 0) (pa_cons (pe_bltn (v := .ty "tuple") (by rfl) T.tuple (by decide +kernel) rfl) pa_nil))))
          (pw_and1 (pt_val (pe_callB (cr_all rfl) (by rfl) T.all (by decide +kernel) (pa_cons (pe_lc (own := [("part", 1)]) (g := gName 1) (tt := tYes) rfl scTI.nd (pi_tup (pv 0)) (blkOk_by (N := ["value", "part"]) (sc := defScope sTI) (by decide +kernel)) (fun _ _ _ _ _ => pg_name (i := 1) scTI.nd rfl (Or.inl rfl)) (fun _ _ _ _ _ => pts_nil)
            (fun _ _ _ _ _ => pe_call DT.ok (hr.mono (by decide)) rfl DT.g DT.kp DT.b .nil pass0 (pa_cons (pv 1) pa_nil))) pa_nil)))))) (pss_one (ps_ret (pe_callTy call_list_of (by rfl) T.list (by decide +kernel) (pa_cons (pv 0) pa_nil)))) pss_nil)
      (pss_one (ps_ret (pe_lst pa_nil)))), ?_⟩
    refine ET.ite (et_t (is_tag (i := 0) rfl hd okd)) (fun et H1 s1 => ?_) fun et H1 s1 => ?_
    · have e : tagsL d = [d] := by
        cases d with
        | tup l => show (if tagD (.tup l) = true then _ else _) = _; rw [if_pos et]
        | _ => cases et
      exact ED.ret (ed_lst P (ea_cons P (h0 rfl s1) ea_nil) (by simp)) fun v' H' s' hd' => q v' H' (Same.trans s1 s') (by rw [e]; exact hd')
    · by_cases ht : isT6 "tuple" d = true
      case neg =>
        have ht := (Bool.not_eq_true _).mp ht
        have e : tagsL d = [] := by
          cases d with
          | tup l => cases ht
          | _ => rfl
        have h1 := et_t (eb_is6 (T := "tuple") (h0 (σ := [some v, none]) rfl s1))
        rw [ht] at h1
        exact ET.skip (et_andF h1) fun H2 s2 => ED.ret (ed_lst P ea_nil (by simp)) fun v' H' s' hd' => q v' H' (Same.trans s1 (Same.trans s2 s')) (by rw [e]; exact hd')
      obtain ⟨l, rfl⟩ : ∃ l, d = .tup l := by
        cases d with
        | tup l => exact ⟨l, rfl⟩
        | bl b => simp [isT6] at ht
        | _ => cases ht
      simp only [okTI, Bool.and_eq_true, decide_eq_true_eq] at ok
      have oks := List.all_eq_true.mp ok.2.1
      have e1 := ed_lcT (K := K) (te := tCall (spV K okTag tagD) [] E0 (tCons (tVar 1) tNil)) (i := 1) (f := fun x => .bl (tagD x)) (h0 (σ := [some v, none]) rfl s1) (by omega) (fun x hx => rfl) (fun u => rfl) fun x u H2 hx s2 hxu =>
        EB.ed (is_tag (i := 1) rfl hxu (oks x hx))
      refine ET.ite (et_andI (c := l.all tagD) (et_t (eb_is6 (T := "tuple") (h0 rfl s1))) fun _ => et_t (eb_all e1)) (fun ea H2 s2 => ?_) fun ea H2 s2 => ?_
      · have e : tagsL (.tup l) = l := by
          show (if tagD (.tup l) = true then _ else if l.all tagD = true then _ else _) = _
          rw [if_neg (by rw [et]; decide), if_pos (show l.all tagD = true from ea)]
        exact ED.ret (ed_listT P (h0 rfl (Same.trans s1 s2))) fun v' H' s' hd' => q v' H' (Same.trans s1 (Same.trans s2 s')) (by rw [e]; exact hd')
      · have e : tagsL (.tup l) = [] := by
          show (if tagD (.tup l) = true then _ else if l.all tagD = true then _ else _) = _
          have ea : l.all tagD = false := ea
          rw [if_neg (by rw [et]; decide), if_neg (by rw [ea]; decide)]
        exact ED.ret (ed_lst P ea_nil (by simp)) fun v' H' s' hd' => q v' H' (Same.trans s1 (Same.trans s2 s')) (by rw [e]; exact hd')
end
end Kd

set_option Elab.async false
set_option linter.all false
set_option maxRecDepth 100000
set_option maxHeartbeats 4000000
/-! del d[key], the key a tuple -/
namespace L2
open PySem PySem.Spec PyProof.Rows
def sDDelT (td ty : TE) : TS := fun D σ H => td σ H fun x H1 => ty σ H1 fun y H2 => ∃ a kvs k b v, x = .ref a ∧ y = .ref b ∧ H2 a = some (.dT kvs) ∧ H2 b = some (.tup (k.map kV)) ∧ valV kvs k = some v ∧ D.nx σ (upd H2 a (.dT (dropK kvs k)))
section
variable {X : Cx} {pins : List (Addr × Obj)} {σ : St} {H : Hp} {s : Shared} {a b : Addr} {kvs : List (List Key × V)} {k : List Key} {v : V} {A : Around} {E : Value → Shared → Prop}
theorem dropT_eq {xs : List (List Key × Addr × Value)} : PySem.withoutH xs k = DT.dropH xs k := rfl
theorem d_delItemT {Q : Unit → Shared → Prop} (hu : A.units + 1 < cLine) (I : Inv X pins σ H s) (ha : H a = some (.dT kvs)) (hb : H b = some (.tup (k.map kV))) (ev : valV kvs k = some v) (h : ∀ s', Inv X pins σ (upd H a (.dT (dropK kvs k))) s' → Q () s') :
    wpAny (model X.prog X.w) A (delItem (.ref a) (.ref b)) Q E s := by
  obtain ⟨z, hd, xs', rel, dd⟩ := dt_of I.hok ha
  have hz : xs'.length ≤ sizeLine := by rw [← Paired.length rel]; exact z
  have r := rel.val k
  rw [ev] at r
  obtain ⟨p, hp⟩ : ∃ p, atKey xs' k = some p := by
    cases e : atKey xs' k with
    | none => rw [e] at r; exact (show False from r).elim
    | some p => exact ⟨p, rfl⟩
  refine wpAny_delItem_heap (knd := tupleKind (mixKind X.prog X.w)) (k := k) (xs := xs') (tupleKind_room_in1 hu) (key_of I.hok hb) hd dd hp (fun h' dd' hs => h _ ?_) hz
  obtain ⟨o, es, ep, hq, h2, h3, h4, h6, h5⟩ := dd'
  exact d_write I (by rw [ha]; exact True.intro) hs ⟨o, hq⟩ ⟨Nat.le_trans (dropK_le kvs k) z, hd, _, (DX.KT_drop k rel).keeps (fun c ys ec => (by rw [upd_ne (ne_of ec ha (fun z => nomatch z))]; exact ec)), o, es, ep, hq, h2, h3, h4, h5⟩
end
section
variable {X : Cx} {o i : Expr} {pos tpos : Pos} {td ty : TE}
theorem ps_ddelT (hu : X.A.units + 1 < cLine) (ho : PE X o td) (hi : PE X i ty) : PS X (.Delete [.Subscript o i tpos] pos) (sDDelT td ty) := by
  refine ⟨fun pins s σ H D I h => ?_⟩
  refine wpAny_Delete (wpAny_deleteEach_cons (wpAny_delete_Subscript (thn (ho.run pins s σ H _ I h) fun u s1 ⟨x, H1, I1, rx, q1⟩ => thn (hi.run pins s1 σ H1 _ I1 q1) fun iv s2 ⟨y, H2, I2, ry, a, kvs, k, b, v, ex, ey, e, eb, l, q2⟩ => ?_)))
  subst ex ey
  obtain rfl : u = Value.ref a := rx
  obtain rfl : iv = Value.ref b := ry
  exact d_delItemT hu I2 e eb l fun s3 I3 => wpAny_deleteEach_nil ⟨σ, _, I3, q2⟩
end
end L2

set_option Elab.async false
set_option linter.all false
set_option maxRecDepth 100000
set_option maxHeartbeats 4000000
/-! the two kinds; what a world reads of them -/
namespace Ed
open PySem PySem.Spec PyProof.Rows L2 Dq Vl Kd
variable {K : PySem.W.Frag} {σ : L2.St} {H : Hp} {te ta tb : TE}
theorem EP.mono {R : V → Hp → Prop} {H' : Hp} (h : EP te σ H R) (s : Same H H') : EP te σ H' R := fun H1 s1 Q k => h H1 (Same.trans s s1) Q k
/-- what a field holds -/
theorem ep_fld {f : Str} {R : V → Hp → Prop} (h : EP te σ H fun v H2 => ∃ a C dx fs u, v = .ref a ∧ H2 a = some (.ins C dx fs) ∧ Cls K C ∧ NoAttr K C f ∧ fs.lookup f = some u ∧ R u H2) : EP (tFld K te f) σ H R := fun H1 s Q k =>
  h H1 s _ fun v H2 s2 ⟨a, C, dx, fs, u, e, ha, hc, hn, hl, r⟩ => ⟨a, C, dx, fs, u, e, ha, hc, hn, hl, k u H2 s2 r⟩
/-- d[k] by a text -/
theorem ep_dK {k : Str} {R : V → Hp → Prop} (h : EP ta σ H fun v H2 => ∃ a kvs u, v = .ref a ∧ H2 a = some (.dK kvs) ∧ valV kvs (.inr k : Key) = some u ∧ (∀ H3, Same H2 H3 → R u H3)) (h2 : EP tb σ H fun v _ => v = .str k) : EP (tDGet ta tb) σ H R := fun H1 s Q q =>
  h H1 s _ fun v H2 s2 ⟨a, kvs, u, e, ha, hu, r⟩ => h2 H2 (Same.trans s s2) _ fun y H3 s3 ey => ⟨a, u, e, .inl ⟨kvs, .inr k, .inl (s3 _ _ ha), ey, hu.symm⟩, q u H3 (Same.trans s2 s3) (r H3 s3)⟩
end Ed
namespace Kd
open PySem PySem.Spec PyProof.Rows L2 Dq Vl Pf Ed ClX
abbrev rwG (n : Str) (f : Bool) : D5 := .tup [.str n, .str "open", .bl f, .non]
def gvn : D5 := .tup [rwG "a" false, rwG "b" true, rwG "c" false]
abbrev rId : D5 := .tup [.str "id", .tup [.str "id"]]
abbrev rMk : D5 := .tup [.str "m", .tup [.str "mark"]]
def kname (ko : Bool) : Str := if ko then "other" else "k"
def mdn (ko : Bool) : D5 := .tup (if ko then [rId, rMk] else [rId])
def hldN (hb ko : Bool) : List Str := if ko then (if hb then ["b"] else []) else ["b", "a"]
def hln (hb ko : Bool) : D5 := .tup ((hldN hb ko).map .str)
def kindD (hb ko : Bool) : Kp Unit := ⟨.str (kname ko), gvn, mdn ko, .non, hln hb ko⟩
/-- the kinds stand -/
structure KAt (K : PySem.W.Frag) (CK : Addr) (H : Hp) (kd : Addr) (hb : Bool) : Prop where
  at_ : ∃ ak ao, H kd = some (.dK [(.inr "k", .ref ak), (.inr "other", .ref ao)]) ∧ KdAt (O5 K) CK H ak (kindD hb false) ∧ KdAt (O5 K) CK H ao (kindD hb true)
theorem KdAt.same5 {K : PySem.W.Frag} {C : Addr} {H H' : Hp} {a : Addr} {k : Kp Unit} (s : Same H H') : KdAt (O5 K) C H a k → KdAt (O5 K) C H' a k := fun ⟨dx, v1, v2, v3, v4, v5, e, w1, w2, w3, w4, w5, e2, h1, h2, h3, h4, h5⟩ =>
  have P := kps5 (K := K)
  ⟨dx, v1, v2, v3, v4, v5, s _ _ e, w1, w2, w3, w4, w5, e2, P.dv s h1, P.dv s h2, P.dv s h3, P.dv s h4, P.dv s h5⟩
theorem KAt.same {K : PySem.W.Frag} {CK : Addr} {H H' : Hp} {kd : Addr} {hb : Bool} (h : KAt K CK H kd hb) (s : Same H H') : KAt K CK H' kd hb := by
  obtain ⟨ak, ao, e, h1, h2⟩ := h.at_
  exact ⟨ak, ao, s _ _ e, h1.same5 s, h2.same5 s⟩
/-- nothing of the kinds stands there -/
structure AlK (CK : Addr) (o : HO) : Prop where
  al : Alien [] o
  ins : ∀ dx fs, o ≠ .ins CK dx fs
theorem Alien.mono {Ks Ls : List (List Str)} {o : HO} (h : Alien Ls o) (m : ∀ k ∈ Ks, k ∈ Ls) : Alien Ks o := ⟨h.1, h.2.1, fun kvs ks e hk => h.2.2 kvs ks e (m _ hk)⟩
theorem kindD_kpt (hb ko : Bool) : kpt [] (kindD hb ko).n = true ∧ kpt [] (kindD hb ko).g = true ∧ kpt [] (kindD hb ko).m = true ∧ kpt [] (kindD hb ko).s = true ∧ kpt [] (kindD hb ko).h = true := by
  cases hb <;> cases ko <;> simp [kindD, gvn, mdn, hln, hldN, kpt, kptL, rwG, rId, rMk]
theorem KdAt.ch {K : PySem.W.Frag} {CK : Addr} {H H' : Hp} {a : Addr} {hb ko : Bool} {S : List Addr} (c : Ch S H H') (al : ∀ a ∈ S, ∀ o, H a = some o → AlK CK o) : KdAt (O5 K) CK H a (kindD hb ko) → KdAt (O5 K) CK H' a (kindD hb ko) :=
  fun ⟨dx, v1, v2, v3, v4, v5, e, w1, w2, w3, w4, w5, e2, h1, h2, h3, h4, h5⟩ => by
    have al' : ∀ a ∈ S, ∀ o, H a = some o → Alien [] o := fun a m o e => (al a m o e).al
    obtain ⟨p1, p2, p3, p4, p5⟩ := kindD_kpt hb ko
    exact ⟨dx, v1, v2, v3, v4, v5, c _ _ e fun m => (al _ m _ e).ins _ _ rfl, w1, w2, w3, w4, w5, e2, Dv.ch c al' _ _ p1 h1, Dv.ch c al' _ _ p2 h2, Dv.ch c al' _ _ p3 h3, Dv.ch c al' _ _ p4 h4, Dv.ch c al' _ _ p5 h5⟩
theorem KAt.ch {K : PySem.W.Frag} {CK : Addr} {H H' : Hp} {kd : Addr} {hb : Bool} {S : List Addr} (c : Ch S H H') (al : ∀ a ∈ S, ∀ o, H a = some o → AlK CK o) (nk : kd ∉ S) (h : KAt K CK H kd hb) : KAt K CK H' kd hb := by
  obtain ⟨ak, ao, e, h1, h2⟩ := h.at_
  exact ⟨ak, ao, c _ _ e nk, h1.ch c al, h2.ch c al⟩
theorem kname_val {ko : Bool} {ak ao : Addr} : valV [((.inr "k" : Key), V.ref ak), (.inr "other", .ref ao)] (.inr (kname ko)) = some (.ref (if ko then ao else ak)) := by
  cases ko
  · simp [valV, kname]
  · have : ¬ (("k" : Str) = "other") := by decide +kernel
    simp [valV, kname, this]
section
variable {K : PySem.W.Frag} {mg : Str → Option Value} {σ : L2.St} {H : Hp} {CW CK aw kd sd : Addr} {rows : List Ro} {last : Int} {hb ko : Bool} {i : Nat} {tk : TE}
theorem ep_kinds (T : TxtW K mg CW) (hw : WAt K CW H aw kd sd rows last) (e : σ[i]? = some (some (.ref aw))) : EP (tFld K (tVar i) "_kinds") σ H fun v _ => v = .ref kd := ep_fld (K := K) fun H1 s Q k => by
  obtain ⟨dx, ew⟩ := hw.w
  exact ⟨_, e, k _ H1 (Same.refl _) ⟨aw, CW, dx, _, _, rfl, s _ _ ew, T.cl, T.n1, wl1, rfl⟩⟩
theorem ep_stand (T : TxtW K mg CW) (hw : WAt K CW H aw kd sd rows last) (e : σ[i]? = some (some (.ref aw))) : EP (tFld K (tVar i) "_standing") σ H fun v _ => v = .ref sd := ep_fld (K := K) fun H1 s Q k => by
  obtain ⟨dx, ew⟩ := hw.w
  exact ⟨_, e, k _ H1 (Same.refl _) ⟨aw, CW, dx, _, _, rfl, s _ _ ew, T.cl, T.n2, wl2, rfl⟩⟩
/-- self._kinds[kind] -/
theorem ep_kind (T : TxtW K mg CW) (hw : WAt K CW H aw kd sd rows last) (hk : KAt K CK H kd hb) (e : σ[i]? = some (some (.ref aw))) (h : EP tk σ H fun v _ => v = .str (kname ko)) :
    EP (tDGet (tFld K (tVar i) "_kinds") tk) σ H fun v H2 => ∃ a, v = .ref a ∧ KdAt (O5 K) CK H2 a (kindD hb ko) := ep_dK (fun H1 s Q q => ep_kinds T hw e H1 s _ fun v H2 s2 ev => by
  obtain ⟨ak, ao, ek, h1, h2⟩ := (hk.same (Same.trans s s2)).at_
  refine q v H2 s2 ⟨kd, _, _, ev, ek, kname_val (ko := ko), fun H3 s3 => ⟨_, rfl, ?_⟩⟩
  cases ko
  · exact h1.same5 s3
  · exact h2.same5 s3) h
variable {te : TE} {k : Kp Unit}
theorem ed_made (T : TxtKi K mg CK) (h : EP te σ H fun v H2 => ∃ a, v = .ref a ∧ KdAt (O5 K) CK H2 a k) : ED (O5 K) (tFld K te "made") σ H k.m := ep_fld (K := K) fun H1 s Q q => h H1 s _ fun v H2 s2 ⟨a, e, dx, v1, v2, v3, v4, v5, ha, w1, w2, w3, w4, w5, e2, h1, h2, h3, h4, h5⟩ => by
  cases e2
  exact q v H2 s2 ⟨a, CK, dx, _, _, e, ha, T.cl, T.n3, (lk_tl (by decide +kernel)).trans ((lk_tl (by decide +kernel)).trans lk_hd), h3⟩
theorem ed_given (T : TxtKi K mg CK) (h : EP te σ H fun v H2 => ∃ a, v = .ref a ∧ KdAt (O5 K) CK H2 a k) : ED (O5 K) (tFld K te "given") σ H k.g := ep_fld (K := K) fun H1 s Q q => h H1 s _ fun v H2 s2 ⟨a, e, dx, v1, v2, v3, v4, v5, ha, w1, w2, w3, w4, w5, e2, h1, h2, h3, h4, h5⟩ => by
  cases e2
  exact q v H2 s2 ⟨a, CK, dx, _, _, e, ha, T.cl, T.n2, (lk_tl (by decide +kernel)).trans lk_hd, h2⟩
theorem ed_single (T : TxtKi K mg CK) (h : EP te σ H fun v H2 => ∃ a, v = .ref a ∧ KdAt (O5 K) CK H2 a k) : ED (O5 K) (tFld K te "single") σ H k.s := ep_fld (K := K) fun H1 s Q q => h H1 s _ fun v H2 s2 ⟨a, e, dx, v1, v2, v3, v4, v5, ha, w1, w2, w3, w4, w5, e2, h1, h2, h3, h4, h5⟩ => by
  cases e2
  exact q v H2 s2 ⟨a, CK, dx, _, _, e, ha, T.cl, T.n4, (lk_tl (by decide +kernel)).trans ((lk_tl (by decide +kernel)).trans ((lk_tl (by decide +kernel)).trans lk_hd)), h4⟩
theorem ed_holds (T : TxtKi K mg CK) (h : EP te σ H fun v H2 => ∃ a, v = .ref a ∧ KdAt (O5 K) CK H2 a k) : ED (O5 K) (tFld K te "holds") σ H k.h := ep_fld (K := K) fun H1 s Q q => h H1 s _ fun v H2 s2 ⟨a, e, dx, v1, v2, v3, v4, v5, ha, w1, w2, w3, w4, w5, e2, h1, h2, h3, h4, h5⟩ => by
  cases e2
  exact q v H2 s2 ⟨a, CK, dx, _, _, e, ha, T.cl, T.n5, (lk_tl (by decide +kernel)).trans ((lk_tl (by decide +kernel)).trans ((lk_tl (by decide +kernel)).trans ((lk_tl (by decide +kernel)).trans lk_hd))), h5⟩
end
end Kd

set_option Elab.async false
set_option linter.all false
set_option maxRecDepth 100000
set_option maxHeartbeats 4000000
/-! World: _refuse_taken, _next_tag, _mark, _surround -/
namespace Ed
open PySem PySem.Spec PyProof.Rows L2 Dq Vl Kd
variable {K : PySem.W.Frag} {σ : L2.St} {H : Hp} {te ta tb : TE}
/-- for over a tuple of kept data, other things changing -/
theorem for_tupD {l : List D5} {S : List Addr} {g : TG} {t : TS} {D : Ends} (h : ED (O5 K) ta σ H (.tup l)) (kp : kpt [] (.tup l) = true) (al : ∀ a ∈ S, ∃ o, H a = some o ∧ Alien [] o)
    (k : ∀ H1, Same H H1 → ∃ Pv : Nat → L2.St → Hp → Prop, Pv 0 σ H1 ∧ (∀ i σ' H', i ≤ l.length → Pv i σ' H' → Ch S H1 H') ∧
      (∀ i d u σ' H', l[i]? = some d → Pv i σ' H' → Dv (O5 K) H' d u → g u σ' H' fun σ2 H2 => t { D with nx := Pv (i + 1), ct := Pv (i + 1), bk := D.nx } σ2 H2) ∧ ∀ σ' H', Pv l.length σ' H' → D.nx σ' H') :
    tFor (iTup K ta) g t D σ H := h.run fun v H1 s1 ⟨a, us, e, ha, hl⟩ => by
  subst e
  obtain ⟨Pv, p0, pc, ps, pe⟩ := k H1 s1
  have el := hl.len
  have ha : SqT K H1 a us := ha
  have al1 : ∀ a ∈ S, ∀ o, H1 a = some o → Alien [] o := fun a m o e => by
    obtain ⟨o', e', q⟩ := al a m
    rw [s1 _ _ e'] at e
    cases e
    exact q
  refine ⟨a, rfl, ⟨us, ha⟩, ?_⟩
  refine for_it (walk_tup (xs := us)) Pv p0 (fun i σ' H' hi p => sqt_ch ha (pc i σ' H' (by omega) p) al1) (fun i x σ' H2 H3 hi p y => ?_) (fun σ' H' p => pe σ' H' (by rw [← el]; exact p))
  obtain ⟨rfl, ex⟩ := y
  obtain ⟨d, ed, hd⟩ := rowAt hl ex
  have kd : kpt [] d = true := by
    rw [kpt] at kp
    have : ∀ l : List D5, kptL [] l = true → ∀ x ∈ l, kpt [] x = true := by
      intro l
      induction l with
      | nil => intro _ x hx; cases hx
      | cons y l ih =>
        intro h x hx
        rw [kptL, Bool.and_eq_true] at h
        rcases List.mem_cons.mp hx with rfl | hx
        · exact h.1
        · exact ih h.2 x hx
    exact this l kp d (List.mem_of_getElem? ed)
  exact ps i d x σ' H3 ed p (Dv.ch (pc i σ' H3 (by omega) p) al1 d x kd hd)
/-- a, b = a pair -/
theorem g_pair {d e : D5} {u : V} {H : Hp} {i j : Nat} {Q : L2.St → Hp → Prop} (h : Dv (O5 K) H (.tup [d, e]) u) (k : ∀ v w, Dv (O5 K) H d v → Dv (O5 K) H e w → Q ((σ.set i (some v)).set j (some w)) H) :
    gTup K 2 (gCons (gName i) (gCons (gName j) gNil)) u σ H Q := by
  obtain ⟨a, us, rfl, ha, u1, r1, rfl, h1, u2, r2, rfl, h2, e3⟩ := h
  cases (show r2 = [] from e3)
  exact ⟨a, _, rfl, ha, rfl, _, _, rfl, _, _, rfl, rfl, k u1 u2 h1 h2⟩
end Ed
namespace Kd
open PySem PySem.Spec PyProof.Rows L2 Dq Vl Pf Ed ClX
theorem pe_ixT {X : Cx} {a b : Expr} {ta tb : TE} {pos : Pos} (ha : PE X a ta) (hb : PE X b tb) (hs : PlainIx b) : PE X (.Subscript a b pos) (tOp (rIxT X.K) ta tb) := pe_ix ix_tup ha hb hs
abbrev sRT : Stmt := inClass (tp 34) 10
abbrev NRT : List Str := ["self", "kind", "given", "tag", "single", "value", "other"]
abbrev PRT : List Str := ["self", "kind", "given", "tag"]
theorem scRT : FnScope NRT PRT (defScope sRT) := ⟨rfl, rfl, rfl, by decide +kernel, rfl, by decide +kernel, by decide +kernel⟩
def spRT (K : PySem.W.Frag) (CW CK : Addr) : Sp := fun vs H Q _ => ∃ (aw kd sd g : Addr) (rows : List Ro) (last : Int) (hb ko : Bool) (kvs : List (Key × V)) (t : V), vs = [.ref aw, .str (kname ko), .ref g, t] ∧ WAt K CW H aw kd sd rows last ∧ KAt K CK H kd hb ∧ H g = some (.dK kvs) ∧ ∀ H', Same H H' → Q .non H'
abbrev sNT : Stmt := inClass (tp 34) 11
theorem scNT : FnScope ["self", "kind"] ["self", "kind"] (defScope sNT) := ⟨rfl, rfl, rfl, by decide +kernel, rfl, by decide +kernel, by decide +kernel⟩
def spNT (K : PySem.W.Frag) (CW : Addr) : Sp := fun vs H Q _ => ∃ (aw dx0 : Addr) (kd sd : Addr) (dx : Addr) (s : Str) (n : Int), vs = [.ref aw, .str s] ∧ H aw = some (.ins CW dx (wfl kd sd n)) ∧
  ∀ (b : Addr) H', Ch [aw] H H' → H b = none → H' aw = some (.ins CW dx (wfl kd sd (n + 1))) → H' b = some (.tup [.str "#", .str s, .int (n + 1)]) → Q (.ref b) H'
abbrev sMk : Stmt := inClass (tp 34) 12
abbrev NMk : List Str := ["self", "tag", "attribute", "rule"]
theorem scMk : FnScope NMk ["self", "tag"] (defScope sMk) := ⟨rfl, rfl, rfl, by decide +kernel, rfl, by decide +kernel, by decide +kernel⟩
abbrev sSu : Stmt := inClass (tp 34) 13
abbrev NSu : List Str := ["self", "tag", "attributes", "attribute", "rule"]
theorem scSu : FnScope NSu ["self", "tag"] (defScope sSu) := ⟨rfl, rfl, rfl, by decide +kernel, rfl, by decide +kernel, by decide +kernel⟩
section
variable {P : Program} {w : World} {K : PySem.W.Frag} {mg : Str → Option Value} {base : Heap} {CW CK : Addr}
theorem ok_rt {f : Addr} {fd : FuncData} (F : Fun K "_refuse_taken" "World._refuse_taken" sRT f fd) (T : TxtW K mg CW) (TK : TxtKi K mg CK) : FnOk P w K mg base CX0 1 f fd PRT (spRT K CW CK) := by
  refine F.ok scRT (fun vs H Q E h => ?_) (fun cdv A outer s H vs Q E hr h => ?_)
  · obtain ⟨aw, kd, sd, g, rows, last, hb, ko, kvs, t, rfl, _⟩ := h
    rfl
  · obtain ⟨aw, kd, sd, g, rows, last, hb, ko, kvs, t, rfl, hw, hk, hg, q⟩ := h
    refine ⟨_, pss_cons (ps_set (i := 4) scRT.nd rfl (Or.inl rfl) (pe_fld (pe_dget (hu_of hr) (pe_fld (pv 0) rfl) (pv 1) (fun _ _ => rfl)) rfl))
      (pss_cons (ps_set (i := 5) scRT.nd rfl (Or.inl rfl) (pe_dgetN (pv 2) (pv 4) ⟨rfl, rfl, rfl, rfl⟩))
      (pss_cons (ps_if (pt_cmp (pc_isN (pv 5))) (pss_one ps_retN) pss_nil) Ow.pss_nv)), ?_⟩
    refine EP.seq (ed_single TK (ep_kind (ko := ko) T hw hk rfl (ep_v rfl))).ep fun v H1 s1 hv => ?_
    cases (show v = .non from hv)
    refine ⟨_, rfl, g, rfl, .inl ⟨kvs, .inl (s1 _ _ hg)⟩, _, rfl, kvs, rfl, .inl (s1 _ _ hg), ?_⟩
    exact ⟨_, rfl, _, rfl, Vl.iteC rfl (q H1 s1)⟩
theorem ok_nt {f : Addr} {fd : FuncData} (F : Fun K "_next_tag" "World._next_tag" sNT f fd) (T : TxtW K mg CW) : FnOk P w K mg base CX0 1 f fd ["self", "kind"] (spNT K CW) := by
  refine F.ok scNT (fun vs H Q E h => ?_) (fun cdv A outer s H vs Q E hr h => ?_)
  · obtain ⟨aw, _, kd, sd, dx, s, n, rfl, _⟩ := h
    rfl
  · obtain ⟨aw, _, kd, sd, dx, s, n, rfl, hw, q⟩ := h
    refine ⟨_, pss_cons (ps_fldaug (pv 0) pe_int in_add) (pss_one (ps_ret (pe_tup (pa_cons pe_str (pa_cons (pv 1) (pa_cons (pe_fld (pv 0) rfl) pa_nil)))))), ?_⟩
    refine ⟨_, rfl, aw, CW, dx, _, _, rfl, hw, T.cl, T.n3, wl3, n, 1, rfl, rfl, dx, _, hw, by show 3 < 1000; decide, ?_⟩
    rw [show putF "_last" (V.int (n + 1)) (wfl kd sd n) = wfl kd sd (n + 1) by rw [putF_tl (by decide +kernel), putF_tl (by decide +kernel)]; exact congrArg _ (congrArg _ (if_pos rfl))]
    refine ⟨_, rfl, _, rfl, aw, CW, dx, _, _, rfl, upd_same, T.cl, T.n3, wl3, by show 3 ≤ sizeLine; decide, fun b nb => ?_⟩
    have nbw : b ≠ aw := fun e => by rw [e, upd_same] at nb; cases nb
    refine q b _ (Ch.updNew (Ch.upd (by simp)) (by rwa [upd_ne nbw] at nb)) (by rwa [upd_ne nbw] at nb) ((upd_ne (Ne.symm nbw)).trans upd_same) upd_same
def spMk (K : PySem.W.Frag) (CW CK : Addr) : Sp := fun vs H Q _ => ∃ (aw kd sd t m dx : Addr) (last : Int) (n : Nat) (hb ko : Bool) (kvs : List (List Key × V)) (mk : List (Key × V)), vs = [.ref aw, .ref t] ∧ H aw = some (.ins CW dx (wfl kd sd last)) ∧ KAt K CK H kd hb ∧
  H t = some (.tup [.str "#", .str (kname ko), .int (n : Int)]) ∧ H sd = some (.dT kvs) ∧ valV kvs (keyT (kname ko) n) = some (.ref m) ∧ H m = some (.dK mk) ∧ valV mk (.inr "m" : Key) = none ∧ mk.length ≤ 100 ∧ (ko = false → ∀ H', Same H H' → Q .non H') ∧
  (ko = true → ∀ (b : Addr) H', Ch [aw, m] H H' → H' aw = some (.ins CW dx (wfl kd sd (last + 1))) → H' b = some (.tup [.str "#", .str (kname ko), .int (last + 1)]) → H' m = some (.dK (mk ++ [(.inr "m", .ref b)])) → Q .non H')
theorem ed_tag1 {K : PySem.W.Frag} {σ : L2.St} {H : Hp} {i : Nat} {t : Addr} {z s : Str} {n : Int} (e : σ[i]? = some (some (.ref t))) (ht : H t = some (.tup [.str z, .str s, .int n])) : ED (O5 K) (tOp (rIxT K) (tVar i) (tC (.int 1))) σ H (.str s) :=
  ed_ixT (kps5 (K := K)) (i := 1) (l := [.str z, .str s, .int n]) (ed_pv (kps5 (K := K)) e ⟨t, _, rfl, .inl (.inl ht), _, _, rfl, rfl, _, _, rfl, rfl, _, _, rfl, rfl, rfl⟩) rfl
theorem alien_ins {Ks : List (List Str)} {C dx : Addr} {fs : List (Str × V)} : Alien Ks (.ins C dx fs) := ⟨fun xs e => (nomatch e), fun o xs e => (nomatch e), fun kvs' ks e hk => (nomatch e)⟩
theorem alien_dK0 {kvs : List (Key × V)} : Alien [] (.dK kvs) := ⟨fun xs e => (nomatch e), fun o xs e => (nomatch e), fun kvs' ks e hk => (nomatch hk)⟩
theorem ok_mk {f fN : Addr} {fd fdN : FuncData} (F : Fun K "_mark" "World._mark" sMk f fd) (T : TxtW K mg CW) (TK : TxtKi K mg CK) (M : Meth K CW "_next_tag" fN) (GN : FnOk P w K mg base CX0 1 fN fdN ["self", "kind"] (spNT K CW)) (bN : Binds K fdN ["self", "kind"] []) :
    FnOk P w K mg base CX0 2 f fd ["self", "tag"] (spMk K CW CK) := by
  refine F.ok scMk (fun vs H Q E h => ?_) (fun cdv A outer s H vs Q E hr h => ?_)
  · obtain ⟨aw, kd, sd, t, m, dx, last, n, hb, ko, kvs, mk, rfl, _⟩ := h
    rfl
  · obtain ⟨aw, kd, sd, t, m, dx, last, n, hb, ko, kvs, mk, rfl, hw, hk, ht, hs, hv, hm, nm, ml, q1, q2⟩ := h
    refine ⟨_, pss_one (ps_for PassesOwn.never rfl (pi_tup (pe_fld (pe_dget (hu_of hr) (pe_fld (pv 0) rfl) (pe_ixT (pv 1) pe_int (fun _ _ => rfl)) (fun _ _ => rfl)) rfl)) (pg_tup rfl (pgs_cons (pg_name (i := 2) scMk.nd rfl (Or.inl rfl)) (pgs_cons (pg_name (i := 3) scMk.nd rfl (Or.inl rfl)) pgs_nil)))
      (pss_one (ps_if (pt_cmpR op_eq (pe_ixT (pv 3) pe_int (fun _ _ => rfl)) pe_str (nomark _)) (pss_one (ps_dput (hu_of hr) (pe_dget (hu_of hr) (pe_fld (pv 0) rfl) (pv 1) (fun _ _ => rfl)) (pv 2) (pe_meth (pv 0) T.cl M GN (hr.mono (by decide)) bN .nil pass0 (pa_cons (pe_ixT (pv 1) pe_int (fun _ _ => rfl)) pa_nil)) (by rfl))) pss_nil))), ?_⟩
    have P := kps5 (K := K)
    have wl0 : ∀ {σ' : L2.St} {H1 : Hp} {Q1 : VK}, σ'[0]? = some (some (.ref aw)) → H1 aw = some (.ins CW dx (wfl kd sd last)) → Q1 (.ref kd) H1 → tFld K (tVar 0) "_kinds" σ' H1 Q1 := fun e e2 q => ⟨_, e, aw, CW, dx, _, _, rfl, e2, T.cl, T.n1, wl1, q⟩
    have kn : EP (tDGet (tFld K (tVar 0) "_kinds") (tOp (rIxT K) (tVar 1) (tC (.int 1)))) [some (.ref aw), some (.ref t), none, none] H fun v H2 => ∃ a, v = .ref a ∧ KdAt (O5 K) CK H2 a (kindD hb ko) :=
      ep_dK (fun H1 s1 Q1 q => wl0 rfl (s1 _ _ hw) (by
        obtain ⟨ak, ao, ek, h1, h2⟩ := (hk.same s1).at_
        refine q _ H1 (Same.refl _) ⟨kd, _, _, rfl, ek, kname_val (ko := ko), fun H3 s3 => ⟨_, rfl, ?_⟩⟩
        cases ko
        · exact h1.same5 s3
        · exact h2.same5 s3)) (ed_tag1 rfl ht).ep
    have nmw : m ≠ aw := fun e => by rw [e, hw] at hm; cases hm
    have nms : m ≠ sd := fun e => by rw [e, hs] at hm; cases hm
    have nsw : sd ≠ aw := fun e => by rw [e, hw] at hs; cases hs
    have ntw : t ≠ aw := fun e => by rw [e, hw] at ht; cases ht
    have ntm : t ≠ m := fun e => by rw [e, hm] at ht; cases ht
    -- a row whose rule is "id"
    have skip : ∀ {w0 w1 : Option V} {H2 : Hp} {t2 : TS} {D : Ends} {u : V}, Dv (O5 K) H2 (.tup [.str "id", .tup [.str "id"]]) u → (∀ v1 v2 H3, Same H2 H3 → D.nx [some (.ref aw), some (.ref t), some v1, some v2] H3) →
        gTup K 2 (gCons (gName 2) (gCons (gName 3) gNil)) u [some (.ref aw), some (.ref t), w0, w1] H2 fun σ2 H3 => tIfS (tTest (tOp rEq (tOp (rIxT K) (tVar 3) (tC (.int 0))) (tC (.str "mark")))) t2 tNext D σ2 H3 := fun hu k => g_pair hu fun v1 v2 h1 h2 => by
      have e0 : EP (tOp (rIxT K) (tVar 3) (tC (.int 0))) [some (.ref aw), some (.ref t), some v1, some v2] _ fun v _ => v = .str "id" := ed_ixT P (i := 0) (l := [.str "id"]) (ed_pv P rfl h2) rfl
      exact ET.skip1 (et_t (eb_eq (y := .str "mark") e0 ep_str rfl)) fun H3 s3 => k v1 v2 H3 s3
    cases ko with
    | false =>
      refine for_tupD (S := []) (l := [rId]) (ed_made TK kn) (by simp [kpt, kptL]) (fun a m => nomatch m) fun H1 s1 => ⟨fun i σ' H' => (∃ w0 w1, σ' = [some (.ref aw), some (.ref t), w0, w1]) ∧ Same H1 H', ⟨⟨_, _, rfl⟩, Same.refl _⟩, fun i σ' H' _ p => Ch.same p.2, fun i d u σ' H' e p hd => ?_, fun σ' H' p => q1 rfl H' (Same.trans s1 p.2)⟩
      obtain ⟨⟨w0, w1, rfl⟩, s2⟩ := p
      match i, e with
      | 0, e =>
        cases e
        exact skip hd fun v1 v2 H3 s3 => ⟨⟨_, _, rfl⟩, Same.trans s2 s3⟩
      | i + 1, e => cases e
    | true =>
      refine for_tupD (S := [aw, m]) (l := [rId, rMk]) (ed_made TK kn) (by simp [kpt, kptL]) (fun a mm => ?_) fun H1 s1 => ⟨fun i σ' H' => (∃ w0 w1, σ' = [some (.ref aw), some (.ref t), w0, w1]) ∧ Ch [aw, m] H1 H' ∧ (i ≤ 1 → Same H1 H') ∧
          (i = 2 → ∃ b, H' aw = some (.ins CW dx (wfl kd sd (last + 1))) ∧ H' b = some (.tup [.str "#", .str (kname true), .int (last + 1)]) ∧ H' m = some (.dK (mk ++ [(.inr "m", .ref b)]))),
        ⟨⟨_, _, rfl⟩, Ch.refl _ _, fun _ => Same.refl _, fun e => nomatch e⟩, fun i σ' H' _ p => p.2.1, fun i d u σ' H' e p hd => ?_, fun σ' H' p => ?_⟩
      · simp only [List.mem_cons, List.not_mem_nil, or_false] at mm
        rcases mm with rfl | rfl
        · exact ⟨_, hw, alien_ins⟩
        · exact ⟨_, hm, alien_dK0⟩
      · obtain ⟨⟨w0, w1, rfl⟩, c2, s2, _⟩ := p
        match i, e with
        | 0, e =>
          cases e
          exact skip hd fun v1 v2 H3 s3 => ⟨⟨_, _, rfl⟩, Ch.trans c2 (Ch.same s3), fun _ => Same.trans (s2 (by omega)) s3, fun e => nomatch e⟩
        | 1, e =>
          cases e
          have s2 := Same.trans s1 (s2 (by omega))
          refine g_pair hd fun v1 v2 h1 h2 => ?_
          cases (show v1 = .str "m" from h1)
          have e0 : EP (tOp (rIxT K) (tVar 3) (tC (.int 0))) [some (.ref aw), some (.ref t), some (.str "m"), some v2] H' fun v _ => v = .str "mark" := ed_ixT P (i := 0) (l := [.str "mark"]) (ed_pv P rfl h2) rfl
          refine (et_t (eb_eq (y := .str "mark") e0 ep_str rfl)).run fun H3 s3 => Vl.iteC (by decide +kernel) ?_
          have s4 := Same.trans s2 s3
          have lkn : (wfl kd sd last).lookup ("_next_tag" : Str) = none := (lk_tl (by decide +kernel)).trans ((lk_tl (by decide +kernel)).trans ((lk_tl (by decide +kernel)).trans rfl))
          refine ⟨_, rfl, aw, dx, _, rfl, s4 _ _ hw, lkn, ?_⟩
          refine (ed_tag1 (i := 1) rfl (s4 _ _ ht)).run fun v H4 s5 hv1 => ?_
          cases (show v = .str (kname true) from hv1)
          have s6 := Same.trans s4 s5
          refine ⟨aw, aw, kd, sd, dx, kname true, last, rfl, s6 _ _ hw, fun b H5 c5 nb e1 e2 => ?_⟩
          have hs5 := c5 _ _ (s6 _ _ hs) (by simpa using nsw)
          have ht5 := c5 _ _ (s6 _ _ ht) (by simpa using ntw)
          have hm5 := c5 _ _ (s6 _ _ hm) (by simpa using nmw)
          have g5 : DGet H5 sd (.ref t) (some (.ref m)) := hv ▸ DGet.t (k := keyT (kname true) n) hs5 ht5
          refine ⟨_, rfl, aw, CW, dx, _, _, rfl, e1, T.cl, T.n2, wl2, _, rfl, sd, .ref m, rfl, g5, _, rfl, m, _, rfl, DPut.k (k := .inr "m") hm5 (Nat.lt_of_le_of_lt ml (by decide)), ⟨_, _, rfl⟩, ?_, fun e => by omega, fun _ => ⟨b, ?_, ?_, ?_⟩⟩
          · exact Ch.trans c2 (Ch.trans (Ch.same (Same.trans s3 s5)) (Ch.trans (Ch.mono c5 (by simp)) (Ch.upd (by simp))))
          · exact (upd_ne (Ne.symm nmw)).trans e1
          · exact (upd_ne fun e => by rw [e, s6 _ _ hm] at nb; cases nb).trans e2
          · rw [upd_same, putK_new _ nm]
        | i + 2, e => cases e
      · obtain ⟨b, b1, b2, b3⟩ := p.2.2.2 rfl
        exact q2 rfl b H' (Ch.trans (Ch.same s1) p.2.1) b1 b2 b3
end
end Kd

set_option Elab.async false
set_option linter.all false
set_option maxRecDepth 100000
set_option maxHeartbeats 4000000
/-! World: _surround, _held_by -/
namespace Ed
open PySem PySem.Spec PyProof.Rows L2 Dq Vl Kd
variable {K : PySem.W.Frag} {σ : L2.St} {H : Hp} {te ta tb : TE}
/-- d[name] of data -/
theorem ed_get {ks : List Str} {l : List D5} {s : Str} {d : D5} {i : Nat} (h : ED (O5 K) ta σ H (.map ks l)) (h2 : EP tb σ H fun v _ => v = .str s) (e : ks[i]? = some s) (e2 : l[i]? = some d) : ED (O5 K) (tDGet ta tb) σ H d := fun H1 s1 Q q =>
  h H1 s1 _ fun v H2 s2 hv => h2 H2 (Same.trans s1 s2) _ fun y H3 s3 ey => by
    obtain ⟨b, kvs, rfl, hb, nd, hk, hl⟩ := (kps5 (K := K)).dv s3 hv
    obtain ⟨u, eu, hu⟩ := at_dv hl e2
    have ndk : (kvs.map (·.1)).Nodup := by rw [hk]; exact List.Pairwise.map _ (fun a b n e => n (Sum.inr.inj e)) nd
    have ekv : kvs[i]? = some (.inr s, u) := by
      have a1 := congrArg (fun m => m[i]?) hk
      simp only [List.getElem?_map, e, Option.map_some] at a1
      rw [List.getElem?_map] at eu
      cases ec : kvs[i]? with
      | none => rw [ec] at eu; cases eu
      | some p =>
        rw [ec] at a1 eu
        simp only [Option.map_some, Option.some.injEq] at a1 eu
        rw [← a1, ← eu]
    exact ⟨b, u, rfl, .inl ⟨kvs, .inr s, .inl hb, ey, (find_at ndk ekv).symm⟩, q u H3 (Same.trans s2 s3) hu⟩
theorem rd_same {H H' : Hp} {a : Addr} {o : HO} (s : Same H H') : Rd H a o → Rd H' a o := fun h => h.elim (fun e => .inl (s _ _ e)) fun ⟨q, e⟩ => .inr ⟨q, s _ _ e⟩
/-- d[tag] of the rows -/
theorem ed_row {rows : List Ro} {kvs : List (List Key × V)} {sd b : Addr} {k : Str} {n : Nat} {r : Ro} (h2 : EP ta σ H fun v H => v = .ref sd ∧ Rd H sd (.dT kvs)) (h : EP tb σ H fun v H => v = .ref b ∧ H b = some (.tup [.str "#", .str k, .int (n : Int)])) (rw' : Rws K H rows kvs) (e : findR rows k n = some r) :
    ED (O5 K) (tDGet ta tb) σ H (mapR r) := fun H1 s1 Q q => h2 H1 s1 _ fun v H2 s2 ⟨ev, es⟩ => h H2 (Same.trans s1 s2) _ fun y H3 s3 ⟨ey, eb⟩ => by
  subst ev ey
  obtain ⟨_, g2⟩ := rws_get k n rw'
  obtain ⟨v, ev, hv⟩ := g2 r e
  exact ⟨sd, v, rfl, .inr ⟨kvs, keyT k n, b, rd_same s3 es, rfl, eb, ev.symm⟩, q v H3 (Same.trans s2 s3) ((kps5 (K := K)).dv (Same.trans s1 (Same.trans s2 s3)) hv)⟩
end Ed
namespace Kd
open PySem PySem.Spec PyProof.Rows L2 Dq Vl Pf Ed ClX
section
variable {P : Program} {w : World} {K : PySem.W.Frag} {mg : Str → Option Value} {base : Heap} {CW CK : Addr}
def spSu (K : PySem.W.Frag) (CW CK : Addr) : Sp := fun vs H Q _ => ∃ (aw kd sd t dx : Addr) (last : Int) (n : Nat) (hb ko : Bool) (kvs : List (List Key × V)) (m : V), vs = [.ref aw, .ref t] ∧ H aw = some (.ins CW dx (wfl kd sd last)) ∧ KAt K CK H kd hb ∧
  H t = some (.tup [.str "#", .str (kname ko), .int (n : Int)]) ∧ H sd = some (.dT kvs) ∧ valV kvs (keyT (kname ko) n) = some m ∧ ∀ H', Same H H' → Q .non H'
/-- self._kinds[tag[1]], the world's fields alone known -/
theorem ep_kindT {σ : L2.St} {H : Hp} {aw kd sd t dx : Addr} {last : Int} {n : Nat} {hb ko : Bool} (T : TxtW K mg CW) (e : σ[0]? = some (some (.ref aw))) (e1 : σ[1]? = some (some (.ref t))) (hw : H aw = some (.ins CW dx (wfl kd sd last))) (hk : KAt K CK H kd hb) (ht : H t = some (.tup [.str "#", .str (kname ko), .int (n : Int)])) :
    EP (tDGet (tFld K (tVar 0) "_kinds") (tOp (rIxT K) (tVar 1) (tC (.int 1)))) σ H fun v H2 => ∃ a, v = .ref a ∧ KdAt (O5 K) CK H2 a (kindD hb ko) :=
  ep_dK (fun H1 s1 Q1 q => ⟨_, e, aw, CW, dx, _, _, rfl, s1 _ _ hw, T.cl, T.n1, wl1, by
    obtain ⟨ak, ao, ek, h1, h2⟩ := (hk.same s1).at_
    refine q _ H1 (Same.refl _) ⟨kd, _, _, rfl, ek, kname_val (ko := ko), fun H3 s3 => ⟨_, rfl, ?_⟩⟩
    cases ko
    · exact h1.same5 s3
    · exact h2.same5 s3⟩) (ed_tag1 e1 ht).ep
theorem ok_su {f : Addr} {fd : FuncData} (F : Fun K "_surround" "World._surround" sSu f fd) (T : TxtW K mg CW) (TK : TxtKi K mg CK) : FnOk P w K mg base CX0 1 f fd ["self", "tag"] (spSu K CW CK) := by
  refine F.ok scSu (fun vs H Q E h => ?_) (fun cdv A outer s H vs Q E hr h => ?_)
  · obtain ⟨aw, kd, sd, t, dx, last, n, hb, ko, kvs, m, rfl, _⟩ := h
    rfl
  · obtain ⟨aw, kd, sd, t, dx, last, n, hb, ko, kvs, m, rfl, hw, hk, ht, hs, hv, q1⟩ := h
    refine ⟨_, pss_cons (ps_set (i := 2) scSu.nd rfl (Or.inl rfl) (pe_dget (hu_of hr) (pe_fld (pv 0) rfl) (pv 1) (fun _ _ => rfl)))
      (pss_one (ps_for PassesOwn.never rfl (pi_tup (pe_fld (pe_dget (hu_of hr) (pe_fld (pv 0) rfl) (pe_ixT (pv 1) pe_int (fun _ _ => rfl)) (fun _ _ => rfl)) rfl)) (pg_tup rfl (pgs_cons (pg_name (i := 3) scSu.nd rfl (Or.inl rfl)) (pgs_cons (pg_name (i := 4) scSu.nd rfl (Or.inl rfl)) pgs_nil)))
      (pss_one (ps_if (pt_cmpR op_eq (pe_ixT (pv 4) pe_int (fun _ _ => rfl)) pe_str (nomark _)) Ow.pss_nv pss_nil)))), ?_⟩
    have P := kps5 (K := K)
    have g5 : DGet H sd (.ref t) (some m) := hv ▸ DGet.t (k := keyT (kname ko) n) hs ht
    refine ⟨_, rfl, aw, CW, dx, _, _, rfl, hw, T.cl, T.n2, wl2, _, rfl, sd, m, rfl, g5, ?_⟩
    have skip : ∀ {w0 w1 : Option V} {H2 : Hp} {t2 : TS} {D : Ends} {u : V} {s z : Str}, (z = "id" ∨ z = "mark") → Dv (O5 K) H2 (.tup [.str s, .tup [.str z]]) u → (∀ v1 v2 H3, Same H2 H3 → D.nx [some (.ref aw), some (.ref t), some m, some v1, some v2] H3) →
        gTup K 2 (gCons (gName 3) (gCons (gName 4) gNil)) u [some (.ref aw), some (.ref t), some m, w0, w1] H2 fun σ2 H3 => tIfS (tTest (tOp rEq (tOp (rIxT K) (tVar 4) (tC (.int 0))) (tC (.str "around")))) t2 tNext D σ2 H3 := fun {w0 w1 H2 t2 D u s z} hz hu k => g_pair hu fun v1 v2 h1 h2 => by
      have e0 : EP (tOp (rIxT K) (tVar 4) (tC (.int 0))) [some (.ref aw), some (.ref t), some m, some v1, some v2] H2 fun v _ => v = .str z := ed_ixT P (i := 0) (l := [.str z]) (ed_pv P rfl h2) rfl
      have := et_t (eb_eq (y := .str "around") e0 ep_str rfl)
      rw [show decide (V.str z = V.str "around") = false by rcases hz with rfl | rfl <;> decide +kernel] at this
      exact ET.skip1 this fun H3 s3 => k v1 v2 H3 s3
    have kn : EP (tDGet (tFld K (tVar 0) "_kinds") (tOp (rIxT K) (tVar 1) (tC (.int 1)))) [some (.ref aw), some (.ref t), some m, none, none] H fun v H2 => ∃ a, v = .ref a ∧ KdAt (O5 K) CK H2 a (kindD hb ko) := ep_kindT T rfl rfl hw hk ht
    have em : (kindD hb ko).m = .tup (if ko then [rId, rMk] else [rId]) := rfl
    have ml := ed_made TK kn
    rw [em] at ml
    refine for_tupD (S := []) ml (by cases ko <;> simp [kpt, kptL]) (fun a m => nomatch m) fun H1 s1 => ⟨fun i σ' H' => (∃ w0 w1, σ' = [some (.ref aw), some (.ref t), some m, w0, w1]) ∧ Same H1 H', ⟨⟨_, _, rfl⟩, Same.refl _⟩, fun i σ' H' _ p => Ch.same p.2, fun i d u σ' H' e p hd => ?_, fun σ' H' p => q1 H' (Same.trans s1 p.2)⟩
    obtain ⟨⟨w0, w1, rfl⟩, s2⟩ := p
    obtain ⟨s, z, hz, rfl⟩ : ∃ s z, (z = ("id" : Str) ∨ z = ("mark" : Str)) ∧ d = .tup [.str s, .tup [.str z]] := by
      have mem := List.mem_of_getElem? e
      cases ko with
      | false => simp at mem; exact ⟨_, _, .inl rfl, mem⟩
      | true =>
        simp at mem
        rcases mem with rfl | rfl
        · exact ⟨_, _, .inl rfl, rfl⟩
        · exact ⟨_, _, .inr rfl, rfl⟩
    exact skip hz hd fun v1 v2 H3 s3 => ⟨⟨_, _, rfl⟩, Same.trans s2 s3⟩
end
end Kd

set_option Elab.async false
set_option linter.all false
set_option maxRecDepth 100000
set_option maxHeartbeats 4000000
/-! World: _held_by -/
namespace Kd
open PySem PySem.Spec PyProof.Rows L2 Dq Vl Pf Ed ClX
def valR (r : Ro) (s : Str) : D5 := if s = "a" then r.a else r.b
def heldR (hb ko : Bool) (r : Ro) : List D5 := (hldN hb ko).flatMap fun s => tagsL (valR r s)
theorem kptL_mem {Ks : List (List Str)} : ∀ {l : List D5}, kptL Ks l = true → ∀ x ∈ l, kpt Ks x = true
  | y :: l, h, x, hx => by
    rw [kptL, Bool.and_eq_true] at h
    rcases List.mem_cons.mp hx with rfl | hx
    · exact h.1
    · exact kptL_mem h.2 x hx
theorem tagsL_kpt {Ks : List (List Str)} {d : D5} (h : kpt Ks d = true) : kptL Ks (tagsL d) = true := by
  cases d with
  | tup l =>
    show kptL Ks (if tagD (.tup l) = true then [.tup l] else if l.all tagD = true then l else []) = true
    split
    · simp only [kptL, h, Bool.and_true]
    · split
      · rwa [kpt] at h
      · rfl
  | _ => rfl
theorem tagsL_len {d : D5} (h : okTI d = true) : (tagsL d).length ≤ 1000 := by
  cases d with
  | tup l =>
    simp only [okTI, Bool.and_eq_true, decide_eq_true_eq] at h
    show (if tagD (.tup l) = true then [.tup l] else if l.all tagD = true then l else []).length ≤ 1000
    split
    · simp
    · split
      · exact h.2.2
      · simp
  | _ => simp [tagsL]
theorem valR_ok {r : Ro} (o : OkR r) (s : Str) : okV (valR r s) = true := by
  unfold valR
  split
  · exact o.a
  · exact o.b
abbrev sHB : Stmt := inClass (tp 34) 14
abbrev NHB : List Str := ["self", "tag", "found", "name"]
theorem scHB : FnScope NHB ["self", "tag"] (defScope sHB) := ⟨rfl, rfl, rfl, by decide +kernel, rfl, by decide +kernel, by decide +kernel⟩
def spHB (K : PySem.W.Frag) (CW CK : Addr) : Sp := fun vs H Q _ => ∃ (aw kd sd t dx : Addr) (last : Int) (n : Nat) (hb ko : Bool) (kvs : List (List Key × V)) (rows : List Ro) (r : Ro), vs = [.ref aw, .ref t] ∧ H aw = some (.ins CW dx (wfl kd sd last)) ∧ KAt K CK H kd hb ∧
  H t = some (.tup [.str "#", .str (kname ko), .int (n : Int)]) ∧ Rd H sd (.dT kvs) ∧ Rws K H rows kvs ∧ findR rows (kname ko) n = some r ∧ OkR r ∧ ∀ v' H', Same H H' → Dv (O5 K) H' (.lst (heldR hb ko r)) v' → Q v' H'
theorem row_ix {r : Ro} {hb ko : Bool} {s : Str} (h : s ∈ hldN hb ko) : ∃ (ks : List Str) (l : List D5) (i : Nat), mapR r = .map ks l ∧ ks[i]? = some s ∧ l[i]? = some (valR r s) := by
  have hs : s = "a" ∨ s = "b" := by
    cases ko
    · simp [hldN] at h; rcases h with h | h
      · exact .inr h
      · exact .inl h
    · cases hb
      · simp [hldN] at h
      · simp [hldN] at h; exact .inr h
  have nb : ¬ (("b" : Str) = "a") := by decide +kernel
  unfold mapR
  rcases hs with rfl | rfl
  · cases r.mr with
    | none => exact ⟨_, _, 0, rfl, rfl, rfl⟩
    | some m => exact ⟨_, _, 0, rfl, rfl, rfl⟩
  · cases r.mr with
    | none => exact ⟨_, _, 1, rfl, rfl, by simp [valR, nb]⟩
    | some m => exact ⟨_, _, 1, rfl, rfl, by simp [valR, nb]⟩
theorem alien_lst {Ks : List (List Str)} {xs : List V} : Alien Ks (.lst xs) := ⟨fun xs e => (nomatch e), fun o xs e => (nomatch e), fun kvs' ks e hk => (nomatch e)⟩
section
variable {P : Program} {w : World} {K : PySem.W.Frag} {mg : Str → Option Value} {base : Heap} {CW CK : Addr}
theorem ok_hb {f fT : Addr} {fd fdT : FuncData} (F : Fun K "_held_by" "World._held_by" sHB f fd) (T : TxtW K mg CW) (TK : TxtKi K mg CK) (DT : Def P w K mg base 3 "_tags_in" fT fdT ["value"] (spTI K)) : FnOk P w K mg base CX0 4 f fd ["self", "tag"] (spHB K CW CK) := by
  refine F.ok scHB (fun vs H Q E h => ?_) (fun cdv A outer s H vs Q E hr h => ?_)
  · obtain ⟨aw, kd, sd, t, dx, last, n, hb, ko, kvs, rows, r, rfl, _⟩ := h
    rfl
  · obtain ⟨aw, kd, sd, t, dx, last, n, hb, ko, kvs, rows, r, rfl, hw, hk, ht, hs, hr', hf, or, q1⟩ := h
    refine ⟨_, pss_cons (ps_set (i := 2) scHB.nd rfl (Or.inl rfl) (pe_lst pa_nil))
      (pss_cons (ps_for PassesOwn.never rfl (pi_tup (pe_fld (pe_dget (hu_of hr) (pe_fld (pv 0) rfl) (pe_ixT (pv 1) pe_int (fun _ _ => rfl)) (fun _ _ => rfl)) rfl)) (pg_name (i := 3) scHB.nd rfl (Or.inl rfl))
        (pss_one (ps_expr (pe_bm PySem.F.plainAttrs_list PySem.F.slot_list_extend PySem.F.type_list_extend mt_extend (pv 2) (pa_cons (pe_call DT.ok (hr.mono (by decide)) rfl DT.g DT.kp DT.b .nil pass0
          (pa_cons (pe_dget (hu_of hr) (pe_dget (hu_of hr) (pe_fld (pv 0) rfl) (pv 1) (fun _ _ => rfl)) (pv 3) (fun _ _ => rfl)) pa_nil)) pa_nil)))))
      (pss_one (ps_ret (pv 2)))), ?_⟩
    have P := kps5 (K := K)
    refine ⟨by show 0 ≤ sizeLine; decide, fun L nL => ?_⟩
    have sL : Same H (upd H L (.lst [])) := sm_upd nL
    have eL : (upd H L (.lst [])) L = some (.lst []) := upd_same
    generalize upd H L (.lst []) = H0 at sL eL
    have kn : EP (tDGet (tFld K (tVar 0) "_kinds") (tOp (rIxT K) (tVar 1) (tC (.int 1)))) [some (.ref aw), some (.ref t), some (.ref L), none] H0 fun v H2 => ∃ a, v = .ref a ∧ KdAt (O5 K) CK H2 a (kindD hb ko) := ep_kindT T rfl rfl (sL _ _ hw) (hk.same sL) (sL _ _ ht)
    have ml := ed_holds TK kn
    rw [show (kindD hb ko).h = .tup ((hldN hb ko).map .str) from rfl] at ml
    have nd3 : (hldN hb ko).length ≤ 2 := by cases hb <;> cases ko <;> simp [hldN]
    refine for_tupD (S := [L]) ml (by cases hb <;> cases ko <;> simp [hldN, kpt, kptL]) (fun a m => by rw [List.mem_singleton.mp m]; exact ⟨_, eL, alien_lst⟩) fun H1 s1 => ⟨fun i σ' H' => (∃ w0, σ' = [some (.ref aw), some (.ref t), some (.ref L), w0]) ∧ Ch [L] H1 H' ∧ ∃ us, H' L = some (.lst us) ∧ us.length ≤ 1000 * i ∧ DvL (O5 K) H' (((hldN hb ko).take i).flatMap fun s => tagsL (valR r s)) us,
      ⟨⟨_, rfl⟩, Ch.refl _ _, [], s1 _ _ eL, by simp, rfl⟩, fun i σ' H' _ p => p.2.1, fun i d u σ' H' e p hd => ?_, fun σ' H' p => ?_⟩
    · obtain ⟨⟨w0, rfl⟩, c2, us, eL2, ul, hu⟩ := p
      obtain ⟨s, es, rfl⟩ : ∃ s, (hldN hb ko)[i]? = some s ∧ d = .str s := by
        rw [List.getElem?_map] at e
        cases es : (hldN hb ko)[i]? with
        | none => rw [es] at e; cases e
        | some s => rw [es] at e; cases e; exact ⟨s, rfl, rfl⟩
      cases (show u = .str s from hd)
      obtain ⟨ks, l, j, em, e1, e2⟩ := row_ix (r := r) (List.mem_of_getElem? es)
      have ovr := valR_ok or s
      have nLw : aw ≠ L := fun e => by rw [e, nL] at hw; cases hw
      have nLt : t ≠ L := fun e => by rw [e, nL] at ht; cases ht
      have nLs : sd ≠ L := fun e => by rcases hs with hs | ⟨_, hs⟩ <;> (rw [e, nL] at hs; cases hs)
      have sH : Same H H' := fun c o e => c2 _ _ (s1 _ _ (sL _ _ e)) (by simp; intro q; rw [q, nL] at e; cases e)
      have map' : ED (O5 K) (tDGet (tFld K (tVar 0) "_standing") (tVar 1)) [some (.ref aw), some (.ref t), some (.ref L), some (.str s)] H' (.map ks l) := by
        rw [← em]
        exact ed_row (b := t) (ep_fld (K := K) (ep_pv rfl fun H2 s2 => ⟨aw, CW, dx, _, _, rfl, s2 _ _ (sH _ _ hw), T.cl, T.n2, wl2, rfl, rd_same s2 (rd_same sH hs)⟩)) (ep_pv rfl fun H2 s2 => ⟨rfl, s2 _ _ (sH _ _ ht)⟩) (hr'.same sH) hf
      refine ⟨_, rfl, .inl ⟨rfl, _, SqL.of eL2⟩, ?_⟩
      refine (ed_get map' (ep_v rfl) e1 e2).run fun v H2 s2 hv => ⟨v, _, rfl, hv, okV_ti ovr, (okV_parts ovr).2.2.2.1, fun v' H3 s3 hd3 => ?_⟩
      obtain ⟨b, zs, rfl, hb3, hz⟩ := hd3
      have eL3 := s3 _ _ (s2 _ _ eL2)
      have s23 := Same.trans s2 s3
      have zl : zs.length ≤ 1000 := by rw [hz.len]; exact tagsL_len (okV_ti ovr)
      have il : i < (hldN hb ko).length := (List.getElem?_eq_some_iff.mp es).1
      have sz : us.length + zs.length ≤ 3000 := by omega
      refine ⟨L, b, us, zs, rfl, rfl, eL3, hb3, Nat.le_trans sz (by decide), ⟨_, rfl⟩, Ch.trans c2 (Ch.trans (Ch.same s23) (Ch.upd (by simp))), _, upd_same, by rw [List.length_append]; omega, ?_⟩
      have cL : Ch [L] H3 (upd H3 L (.lst (us ++ zs))) := Ch.upd (by simp)
      have aL : ∀ a ∈ [L], ∀ o, H3 a = some o → Alien [["x"]] o := fun a m o e => by
        rw [List.mem_singleton.mp m, eL3] at e
        cases e
        exact alien_lst
      rw [List.take_succ, es, List.flatMap_append, show (some s).toList.flatMap (fun s => tagsL (valR r s)) = tagsL (valR r s) by simp]
      refine DvL.app (DvL.ch cL aL _ _ (kptL_all fun x hx => ?_) (P.dvl s23 hu)) (DvL.ch cL aL _ _ ?_ hz)
      · obtain ⟨s', _, hx'⟩ := List.mem_flatMap.mp hx
        exact kptL_mem (tagsL_kpt (okV_parts (valR_ok or s')).2.2.1) x hx'
      · exact tagsL_kpt (okV_parts ovr).2.2.1
    · obtain ⟨⟨w0, rfl⟩, c2, us, eL2, ul, hu⟩ := p
      rw [List.length_map, List.take_length] at hu
      exact ⟨_, rfl, q1 (.ref L) H' (fun c o e => c2 _ _ (s1 _ _ (sL _ _ e)) (by simp; intro q; rw [q, nL] at e; cases e)) ⟨L, us, rfl, eL2, hu⟩⟩
end
end Kd

set_option Elab.async false
set_option linter.all false
set_option maxRecDepth 100000
set_option maxHeartbeats 4000000
/-! World: make -/
namespace Kd
open PySem PySem.Spec PyProof.Rows L2 Dq Vl Pf Ed ClX
abbrev abc : List Str := ["a", "b", "c"]
theorem gvn_at {i : Nat} {d : D5} (h : ([rwG "a" false, rwG "b" true, rwG "c" false] : List D5)[i]? = some d) : ∃ s f, abc[i]? = some s ∧ d = rwG s f ∧ i < 3 := by
  match i, h with
  | 0, h => cases h; exact ⟨_, _, rfl, rfl, by omega⟩
  | 1, h => cases h; exact ⟨_, _, rfl, rfl, by omega⟩
  | 2, h => cases h; exact ⟨_, _, rfl, rfl, by omega⟩
  | i + 3, h => cases h
def newR (ko : Bool) (last : Nat) (x y z : D5) : Ro := ⟨kname ko, last + 1, x, y, z, if ko then some (last + 2) else none⟩
def nextL (ko : Bool) (last : Nat) : Nat := if ko then last + 2 else last + 1
abbrev sMake : Stmt := inClass (tp 34) 4
abbrev NMake : List Str := ["self", "kind", "given", "attributes", "tag", "row"]
theorem scMake : FnScope NMake ["self", "kind", "given"] (defScope sMake) := ⟨rfl, rfl, rfl, by decide +kernel, rfl, by decide +kernel, by decide +kernel⟩
def spMake (K : PySem.W.Frag) (CW CK : Addr) : Sp := fun vs H Q _ => ∃ (aw kd sd : Addr) (gv : V) (rows : List Ro) (last : Nat) (hb ko : Bool) (x y z : D5), vs = [.ref aw, .str (kname ko), gv] ∧ WAt K CW H aw kd sd rows (last : Int) ∧ KAt K CK H kd hb ∧ Dv (O5 K) H (.map abc [x, y, z]) gv ∧
  okV x = true ∧ okV y = true ∧ okV z = true ∧ (∀ r ∈ rows, OkR r) ∧ (∀ r ∈ rows, r.n ≤ last) ∧ rows.length ≤ 1000 ∧
  ∀ (b : Addr) H', Ch [aw, sd] H H' → WAt K CW H' aw kd sd (rows ++ [newR ko last x y z]) (nextL ko last : Nat) → H' b = some (.tup [.str "#", .str (kname ko), .int ((last + 1 : Nat) : Int)]) → Q (.ref b) H'
section
variable {P : Program} {w : World} {K : PySem.W.Frag} {mg : Str → Option Value} {base : Heap} {CW CK : Addr}
theorem ok_make {f fF fA fR fN fM fS : Addr} {fd fdF fdA fdR fdN fdM fdS : FuncData} (F : Fun K "make" "World.make" sMake f fd) (T : TxtW K mg CW) (TK : TxtKi K mg CK)
    (DF : Def P w K mg base 5 "fresh" fF fdF ["value"] (spFrs K 4)) (DA : Def P w K mg base 1 "_as_chosen" fA fdA ["value", "sort"] spAC)
    (MR : Meth K CW "_refuse_taken" fR) (GR : FnOk P w K mg base CX0 1 fR fdR PRT (spRT K CW CK)) (bR : Binds K fdR PRT [])
    (MN : Meth K CW "_next_tag" fN) (GN : FnOk P w K mg base CX0 1 fN fdN ["self", "kind"] (spNT K CW)) (bN : Binds K fdN ["self", "kind"] [])
    (MM : Meth K CW "_mark" fM) (GM : FnOk P w K mg base CX0 2 fM fdM ["self", "tag"] (spMk K CW CK)) (bM : Binds K fdM ["self", "tag"] [])
    (MS : Meth K CW "_surround" fS) (GS : FnOk P w K mg base CX0 1 fS fdS ["self", "tag"] (spSu K CW CK)) (bS : Binds K fdS ["self", "tag"] []) (neK : CW ≠ CK) :
    FnOk P w K mg base CX0 6 f fd ["self", "kind", "given"] (spMake K CW CK) := by
  refine F.ok scMake (fun vs H Q E h => ?_) (fun cdv A outer s H vs Q E hr h => ?_)
  · obtain ⟨aw, kd, sd, gv, rows, last, hb, ko, x, y, z, rfl, _⟩ := h
    rfl
  · obtain ⟨aw, kd, sd, gv, rows, last, hb, ko, x, y, z, rfl, hw, hk, hg, ox, oy, oz, or, lr, rl, q⟩ := h
    refine ⟨_, pss_cons (Sd.ps_setDc (i := 3) (own := [("row", 5)]) (g := gName 5) (tt := tYes) rfl scMake.nd rfl rfl (Sd.sw_trueD rfl rfl rfl (by decide +kernel)) (pi_tup (pe_fld (pe_dget (hu_of hr) (pe_fld (pv 0) rfl) (pv 1) (fun _ _ => rfl)) rfl)) (blkOk_by (N := NMake) (sc := defScope sMake) (by decide +kernel)) (fun _ _ _ _ _ => pg_name (i := 5) scMake.nd rfl (Or.inl rfl)) (fun _ _ _ _ _ => pts_nil)
        (fun _ _ _ _ _ => pe_ix (show IxR _ (rIxT K) from ix_tup) (pv 5) pe_int (fun _ _ => rfl))
        (fun _ _ _ _ _ => pe_call DA.ok (hr.mono (by decide)) rfl DA.g DA.kp DA.b .nil pass0 (pa_cons (pe_call DF.ok (hr.mono (by decide)) rfl DF.g DF.kp DF.b .nil pass0 (pa_cons (pe_dget1 (hu_of hr) (pv 2) (pe_ix (show IxR _ (rIxT K) from ix_tup) (pv 5) pe_int (fun _ _ => rfl)) ⟨rfl, rfl, rfl, rfl⟩) pa_nil)) (pa_cons (pe_ix (show IxR _ (rIxT K) from ix_tup) (pv 5) pe_int (fun _ _ => rfl)) pa_nil))))
      (pss_cons (ps_expr (pe_meth (pv 0) T.cl MR GR (hr.mono (by decide)) bR .nil pass0 (pa_cons (pv 1) (pa_cons (pv 3) (pa_cons pe_non pa_nil)))))
      (pss_cons (ps_set (i := 4) scMake.nd rfl (Or.inl rfl) (pe_meth (pv 0) T.cl MN GN (hr.mono (by decide)) bN .nil pass0 (pa_cons (pv 1) pa_nil)))
      (pss_cons (ps_dput (hu_of hr) (pv 3) pe_str (pv 4) (by rfl))
      (pss_cons (ps_dput (hu_of hr) (pe_fld (pv 0) rfl) (pv 4) (pv 3) (by rfl))
      (pss_cons (ps_expr (pe_meth (pv 0) T.cl MM GM (hr.mono (by decide)) bM .nil pass0 (pa_cons (pv 4) pa_nil)))
      (pss_cons (ps_expr (pe_meth (pv 0) T.cl MS GS (hr.mono (by decide)) bS .nil pass0 (pa_cons (pv 4) pa_nil)))
      (pss_one (ps_ret (pv 4))))))))), ?_⟩
    have P := kps5 (K := K)
    refine (ed_given TK (ep_kind (ko := ko) T hw hk rfl (ep_v rfl))).run fun gv' H1 s1 hv => ?_
    obtain ⟨ga, us, rfl, ha, hl⟩ := hv
    refine ⟨ga, rfl, ⟨us, ha⟩, fun D nD => ?_⟩
    have nD0 : H D = none := by
      cases e : H D with
      | none => rfl
      | some o => rw [s1 _ _ e] at nD; cases nD
    have lu : us.length = 3 := hl.len
    obtain ⟨g, gk, rfl, hgk, gnd, gks, gl⟩ := hg
    have gnd' : (gk.map (·.1)).Nodup := by rw [gks]; exact List.pairwise_map.mpr (List.Pairwise.imp (fun n e => n (Sum.inr.inj e)) gnd)
    have oxyz : ∀ d ∈ [x, y, z], okV d = true := by
      intro d hd
      simp only [List.mem_cons, List.not_mem_nil, or_false] at hd
      rcases hd with rfl | rfl | rfl <;> assumption
    have kxyz : ∀ i, kptL [["x"]] ([x, y, z].take i) = true := fun i => kptL_all fun d hd => (okV_parts (oxyz d (List.mem_of_mem_take hd))).2.2.1
    have nox : ∀ i, ((abc.take i).map (Sum.inr : Str → Key)) ≠ ([("x" : Str)]).map Sum.inr := by
      intro i e
      match i, e with
      | 0, e => cases e
      | i + 1, e =>
        simp only [List.take_succ_cons, List.map_cons, List.map_nil, List.cons.injEq, Sum.inr.injEq] at e
        exact absurd e.1 (by decide +kernel)
    refine Sd.dc_it (walk_tup (xs := us)) (fun i H' => Ch [D] H1 H' ∧ ∃ kv', H' D = some (.dK kv') ∧ kv'.map (·.1) = (abc.take i).map Sum.inr ∧ DvL (O5 K) H' ([x, y, z].take i) (kv'.map (·.2)))
      ⟨Ch.updNew (Ch.refl _ _) nD, [], upd_same, rfl, rfl⟩ (fun i H' _ h => sqt_ch (Ks := []) ha h.1 fun a m o e => by rw [List.mem_singleton.mp m, nD] at e; cases e) (fun i u H2 H2' hlt h y' => ?_) (fun H2 h => ?_)
    · obtain ⟨c2, kv', eD, ek, ev⟩ := h
      obtain ⟨rfl, eu⟩ := y'
      obtain ⟨d, ed, hd⟩ := rowAt hl eu
      obtain ⟨s, fb, es, rfl, i3⟩ := gvn_at ed
      have al0 : ∀ a ∈ [D], ∀ o, H1 a = some o → Alien [] o := fun a m o e => by rw [List.mem_singleton.mp m, nD] at e; cases e
      have hd2 := Dv.ch c2 al0 _ _ (by simp [kpt, kptL]) hd
      have c0 : Same H H2' := fun c o e => c2 _ _ (s1 _ _ e) (by simp; intro q; rw [q, nD0] at e; cases e)
      obtain ⟨xd, exd⟩ : ∃ xd, ([x, y, z] : List D5)[i]? = some xd := ⟨[x, y, z][i], List.getElem?_eq_getElem (by simpa using i3)⟩
      have oxd := oxyz xd (List.mem_of_getElem? exd)
      obtain ⟨gu, egu, hgu⟩ := at_dv gl exd
      have eg : gk[i]? = some (.inr s, gu) := by
        have a1 := congrArg (fun m => m[i]?) gks
        simp only [List.getElem?_map, es, Option.map_some] at a1
        rw [List.getElem?_map] at egu
        cases ec : gk[i]? with
        | none => rw [ec] at egu; cases egu
        | some p =>
          rw [ec] at a1 egu
          simp only [Option.map_some, Option.some.injEq] at a1 egu
          rw [← a1, ← egu]
      have row0 : ∀ {H3 : Hp} {σ : L2.St}, Same H2' H3 → σ[5]? = some (some u) → ED (O5 K) (tOp (rIxT K) (tVar 5) (tC (.int 0))) σ H3 (.str s) := fun s3 e => ed_ixT P (i := 0) (l := [.str s, .str "open", .bl fb, .non]) (ed_pv P e (P.dv s3 hd2)) rfl
      have row1 : ∀ {H3 : Hp} {σ : L2.St}, Same H2' H3 → σ[5]? = some (some u) → ED (O5 K) (tOp (rIxT K) (tVar 5) (tC (.int 1))) σ H3 (.str "open") := fun s3 e => ed_ixT P (i := 1) (l := [.str s, .str "open", .bl fb, .non]) (ed_pv P e (P.dv s3 hd2)) rfl
      refine ⟨rfl, ?_⟩
      show tOp (rIxT K) (tVar 5) (tC (.int 0)) _ _ _
      refine (row0 (Same.refl _) rfl).run fun v1 H3 s3 hv1 => ?_
      cases (show v1 = .str s from hv1)
      refine ⟨_, rfl, g, rfl, .inl ⟨gk, .inl (s3 _ _ (c0 _ _ hgk))⟩, ?_⟩
      refine (row0 s3 rfl).run fun v1 H4 s4 hv1 => ?_
      cases (show v1 = .str s from hv1)
      have s34 := Same.trans s3 s4
      refine ⟨some gu, .inl ⟨gk, .inr s, .inl (s34 _ _ (c0 _ _ hgk)), rfl, (find_at gnd' eg).symm⟩, ?_⟩
      refine ⟨gu, xd, rfl, P.dv (Same.trans c0 s34) hgu, (okV_parts oxd).1, fun v' H5 s5 hv' => ?_⟩
      refine (row1 (Same.trans s34 s5) rfl).run fun v2 H6 s6 hv2 => ?_
      cases (show v2 = .str "open" from hv2)
      refine ⟨v', rfl, fun H7 s7 => ?_⟩
      have s27 := Same.trans s34 (Same.trans s5 (Same.trans s6 s7))
      have kl : kv'.length ≤ 3 := by
        have := congrArg List.length ek
        rw [List.length_map, List.length_map, List.length_take] at this
        simp at this
        omega
      have nz : valV kv' (Sum.inr s : Key) = none := by
        unfold valV
        rw [Option.map_eq_none_iff, List.find?_eq_none]
        intro p hp
        simp only [decide_eq_true_eq]
        intro q2
        have m1 : (Sum.inr s : Key) ∈ (abc.take i).map Sum.inr := by rw [← ek, ← q2]; exact List.mem_map_of_mem (f := (·.1)) hp
        obtain ⟨y2, hy, e7⟩ := List.mem_map.mp m1
        cases e7
        match i, es, hy with
        | 0, _, hy => cases hy
        | 1, es, hy => cases es; revert hy; decide +kernel
        | 2, es, hy => cases es; revert hy; decide +kernel
        | i + 3, es, hy => cases es
      refine ⟨kv', .inr s, rfl, s27 _ _ eD, Nat.lt_of_le_of_lt kl (by decide), Ch.trans c2 (Ch.trans (Ch.same s27) (Ch.upd (by simp))), _, upd_same, ?_, ?_⟩
      · rw [putK_new _ nz, List.map_append, ek, List.take_succ, es, List.map_append]
        rfl
      · rw [putK_new _ nz, List.map_append, List.take_succ, exd]
        have cD : Ch [D] H7 (upd H7 D (.dK (kv' ++ [(Sum.inr s, v')]))) := Ch.upd (by simp)
        have al : ∀ b ∈ [D], ∀ o, H7 b = some o → Alien [["x"]] o := fun b hb o e => by
          rw [List.mem_singleton.mp hb, s27 _ _ eD] at e
          cases e
          exact alien_dk fun ks' hk' => by rw [ek, List.mem_singleton.mp hk']; exact nox i
        exact DvL.snoc (Dv.ch cD al _ _ (okV_parts oxd).2.2.1 (P.dv (Same.trans s6 s7) hv')) (DvL.ch cD al _ _ (kxyz i) (P.dvl s27 ev))
    · obtain ⟨c2, kv, eD, ek, ev⟩ := h
      rw [lu] at ek ev
      have c0 : Same H H2 := fun c o e => c2 _ _ (s1 _ _ e) (by simp; intro q; rw [q, nD0] at e; cases e)
      obtain ⟨dx, ew⟩ := (hw.same c0).w
      obtain ⟨kvs, es, rr⟩ := hw.s
      have lkn : ∀ {nm : Str} {n : Int}, (nm == "_kinds") = false → (nm == "_standing") = false → (nm == "_last") = false → (wfl kd sd n).lookup nm = none := fun a b c => (lk_tl a).trans ((lk_tl b).trans ((lk_tl c).trans rfl))
      have nDw : D ≠ aw := fun e => by rw [e, ew] at eD; cases eD
      have es2 := c0 _ _ es
      have nDs : D ≠ sd := fun e => by rw [e, es2] at eD; cases eD
      have nws : aw ≠ sd := fun e => by rw [e, es2] at ew; cases ew
      have kl : kv.length = 3 := by
        have := congrArg List.length ek
        rwa [List.length_map, List.length_map] at this
      refine ⟨_, rfl, aw, dx, _, rfl, ew, lkn (by decide +kernel) (by decide +kernel) (by decide +kernel), _, rfl, _, rfl, aw, kd, sd, D, rows, last, hb, ko, kv, .non, rfl, hw.same c0, hk.same c0, eD, fun H3 s3 => ?_⟩
      have ew3 := s3 _ _ ew
      refine ⟨_, rfl, aw, dx, _, rfl, ew3, lkn (by decide +kernel) (by decide +kernel) (by decide +kernel), _, rfl, aw, aw, kd, sd, dx, kname ko, last, rfl, ew3, fun b H4 c4 nb e1 e2 => ?_⟩
      have eD4 := c4 _ _ (s3 _ _ eD) (by simpa using nDw)
      have es4 := c4 _ _ (s3 _ _ es2) (by simpa using Ne.symm nws)
      have nbD : b ≠ D := fun e => by rw [e, s3 _ _ eD] at nb; cases nb
      have nbs : b ≠ sd := fun e => by rw [e, s3 _ _ es2] at nb; cases nb
      refine ⟨_, rfl, _, rfl, D, _, rfl, DPut.k (k := .inr "id") eD4 (by rw [kl]; decide), ?_⟩
      have nid : valV kv (Sum.inr "id" : Key) = none := by
        unfold valV
        rw [Option.map_eq_none_iff, List.find?_eq_none]
        intro p hp
        simp only [decide_eq_true_eq]
        intro q2
        have m1 : (Sum.inr "id" : Key) ∈ (abc.take 3).map Sum.inr := by rw [← ek, ← q2]; exact List.mem_map_of_mem (f := (·.1)) hp
        obtain ⟨y2, hy, e7⟩ := List.mem_map.mp m1
        cases e7
        revert hy
        decide +kernel
      rw [putK_new _ nid]
      have c5 : Ch [aw, D] H2 (upd H4 D (.dK (kv ++ [(.inr "id", .ref b)]))) := Ch.trans (Ch.same s3) (Ch.trans (Ch.mono c4 (by simp)) (Ch.upd (by simp)))
      have e15 : (upd H4 D (.dK (kv ++ [(.inr "id", .ref b)]))) aw = some (.ins CW dx (wfl kd sd (last + 1))) := (upd_ne (Ne.symm nDw)).trans e1
      have e25 : (upd H4 D (.dK (kv ++ [(.inr "id", .ref b)]))) b = some (.tup [.str "#", .str (kname ko), .int (last + 1)]) := (upd_ne nbD).trans e2
      have eD5 : (upd H4 D (.dK (kv ++ [(.inr "id", .ref b)]))) D = some (.dK (kv ++ [(.inr "id", .ref b)])) := upd_same
      have es5 : (upd H4 D (.dK (kv ++ [(.inr "id", .ref b)]))) sd = some (.dT kvs) := (upd_ne (Ne.symm nDs)).trans es4
      generalize upd H4 D (.dK (kv ++ [(.inr "id", .ref b)])) = H5 at c5 e15 e25 eD5 es5
      have rlen : kvs.length ≤ 1000 := by rw [rr.len]; exact rl
      refine ⟨_, rfl, _, rfl, aw, CW, dx, _, _, rfl, e15, T.cl, T.n2, wl2, _, rfl, sd, _, rfl, DPut.t (k := keyT (kname ko) (last + 1)) es5 e25 (Nat.lt_of_le_of_lt rlen (by decide)), ?_⟩
      have nrow : findR rows (kname ko) (last + 1) = none := by
        unfold findR
        rw [List.find?_eq_none]
        intro r hr2
        have := lr r hr2
        simp [isRow]
        intro _
        omega
      have nkey : valV kvs (keyT (kname ko) (last + 1)) = none := (rws_get _ _ rr).1 nrow
      rw [putK_new _ nkey]
      have c6 : Ch [aw, D, sd] H2 (upd H5 sd (.dT (kvs ++ [(keyT (kname ko) (last + 1), .ref D)]))) := Ch.trans (Ch.mono c5 (by simp)) (Ch.upd (by simp))
      have e16 : (upd H5 sd (.dT (kvs ++ [(keyT (kname ko) (last + 1), .ref D)]))) aw = some (.ins CW dx (wfl kd sd (last + 1))) := (upd_ne nws).trans e15
      have e26 : (upd H5 sd (.dT (kvs ++ [(keyT (kname ko) (last + 1), .ref D)]))) b = some (.tup [.str "#", .str (kname ko), .int (last + 1)]) := (upd_ne nbs).trans e25
      have eD6 : (upd H5 sd (.dT (kvs ++ [(keyT (kname ko) (last + 1), .ref D)]))) D = some (.dK (kv ++ [(.inr "id", .ref b)])) := (upd_ne nDs).trans eD5
      have es6 : (upd H5 sd (.dT (kvs ++ [(keyT (kname ko) (last + 1), .ref D)]))) sd = some (.dT (kvs ++ [(keyT (kname ko) (last + 1), .ref D)])) := upd_same
      generalize upd H5 sd (.dT (kvs ++ [(keyT (kname ko) (last + 1), .ref D)])) = H6 at c6 e16 e26 eD6 es6
      have nm : valV (kv ++ [((.inr "id" : Key), V.ref b)]) (.inr "m" : Key) = none := by
        unfold valV
        rw [Option.map_eq_none_iff, List.find?_eq_none]
        intro p hp
        simp only [decide_eq_true_eq]
        intro q2
        have m1 : (Sum.inr "m" : Key) ∈ (kv ++ [((.inr "id" : Key), V.ref b)]).map (·.1) := by rw [← q2]; exact List.mem_map_of_mem (f := (·.1)) hp
        rw [List.map_append, ek, show ([((.inr "id" : Key), V.ref b)] : List (Key × V)).map (·.1) = (["id"] : List Str).map Sum.inr from rfl, ← List.map_append] at m1
        obtain ⟨y2, hy, e7⟩ := List.mem_map.mp m1
        cases e7
        revert hy
        decide +kernel
      have hv6 : valV (kvs ++ [(keyT (kname ko) (last + 1), V.ref D)]) (keyT (kname ko) (last + 1)) = some (.ref D) := by
        rw [← putK_new _ nkey, valV_put, if_pos rfl]
      have aK2 : ∀ a ∈ [aw, D, sd], ∀ o, H2 a = some o → AlK CK o := by
        intro a m o e
        simp only [List.mem_cons, List.not_mem_nil, or_false] at m
        rcases m with rfl | rfl | rfl
        · rw [ew] at e
          cases e
          exact ⟨alien_ins, fun dx' fs e => by injection e with e1 _ _; exact neK e1⟩
        · rw [eD] at e; cases e; exact ⟨alien_dK0, fun _ _ e => nomatch e⟩
        · rw [es2] at e; cases e; exact ⟨⟨fun xs e => (nomatch e), fun o xs e => (nomatch e), fun kvs' ks e hk => (nomatch e)⟩, fun _ _ e => nomatch e⟩
      have nk : kd ∉ [aw, D, sd] := by
        obtain ⟨ak, ao, ekd, _, _⟩ := hk.at_
        have ekd2 := c0 _ _ ekd
        intro m
        simp only [List.mem_cons, List.not_mem_nil, or_false] at m
        rcases m with rfl | rfl | rfl
        · rw [ew] at ekd2; cases ekd2
        · rw [nD0] at ekd; cases ekd
        · rw [es2] at ekd2; cases ekd2
      have hk6 := (hk.same c0).ch c6 aK2 nk
      have cc : Ch [aw, sd] H H6 := fun c o e n => c6 _ _ (c0 _ _ e) (by
        simp only [List.mem_cons, List.not_mem_nil, or_false, not_or] at n ⊢
        exact ⟨n.1, (fun q => by rw [q, nD0] at e; cases e), n.2⟩)
      have ddv : ∀ {H8 : Hp}, Ch [aw, D, sd] H2 H8 → DvL (O5 K) H8 [x, y, z] (kv.map (·.2)) := fun c8 => DvL.ch c8 (fun a m o e => by
        simp only [List.mem_cons, List.not_mem_nil, or_false] at m
        rcases m with rfl | rfl | rfl
        · rw [ew] at e; cases e; exact alien_ins
        · rw [eD] at e; cases e
          exact alien_dk fun ks' hk' => by rw [ek, List.mem_singleton.mp hk']; exact nox 3
        · rw [es2] at e; cases e; exact ⟨fun xs e => (nomatch e), fun o xs e => (nomatch e), fun kvs' ks e hk => (nomatch e)⟩) _ _ (kxyz 3) ev
      have rws8 : ∀ {H8 : Hp}, Ch [aw, sd] H H8 → Rws K H8 rows kvs := fun c8 => Rws.ch c8 (fun a m o e => by
        simp only [List.mem_cons, List.not_mem_nil, or_false] at m
        rcases m with rfl | rfl
        · have := c0 _ _ e; rw [ew] at this; cases this; exact alien_ins
        · rw [es] at e; cases e; exact ⟨fun xs e => (nomatch e), fun o xs e => (nomatch e), fun kvs' ks e hk => (nomatch e)⟩) or rr
      refine ⟨_, rfl, aw, dx, _, rfl, e16, lkn (by decide +kernel) (by decide +kernel) (by decide +kernel), _, rfl, aw, kd, sd, b, D, dx, last + 1, last + 1, hb, ko, _, _, rfl, e16, hk6, e26, es6, hv6, eD6, nm, by rw [List.length_append, kl]; show 3 + 1 ≤ 100; decide, fun eko H7 s7 => ?_, fun eko b2 H7 c7 f1 f2 f3 => ?_⟩
      · subst eko
        refine ⟨_, rfl, aw, dx, _, rfl, s7 _ _ e16, lkn (by decide +kernel) (by decide +kernel) (by decide +kernel), _, rfl, aw, kd, sd, b, dx, last + 1, last + 1, hb, false, _, _, rfl, s7 _ _ e16, hk6.same s7, s7 _ _ e26, s7 _ _ es6, hv6, fun H8 s8 => ⟨_, rfl, ?_⟩⟩
        have s78 := Same.trans s7 s8
        have c8 := Ch.trans cc (Ch.same s78)
        refine q b H8 c8 ⟨⟨dx, s78 _ _ e16⟩, _, s78 _ _ es6, Rws.app ?_ (rws8 c8)⟩ (s78 _ _ e26)
        refine ⟨D, _, rfl, s78 _ _ eD6, by decide +kernel, ?_, ?_⟩
        · rw [List.map_append, ek]; rfl
        · rw [List.map_append]
          exact DvL.app (l := [x, y, z]) (ddv (Ch.trans c6 (Ch.same s78))) ⟨_, _, rfl, ⟨b, _, rfl, .inl (.inl (s78 _ _ e26)), _, _, rfl, rfl, _, _, rfl, rfl, _, _, rfl, rfl, rfl⟩, rfl⟩
      · subst eko
        have mb : ∀ c, c ≠ aw → c ≠ D → c ∉ [aw, D] := fun c h1 h2 m => by
          simp only [List.mem_cons, List.not_mem_nil, or_false] at m
          rcases m with rfl | rfl
          · exact h1 rfl
          · exact h2 rfl
        have nbw : b ≠ aw := fun e => by rw [e, e16] at e26; cases e26
        have g26 := c7 _ _ e26 (mb b nbw nbD)
        have gs6 := c7 _ _ es6 (mb sd (Ne.symm nws) (Ne.symm nDs))
        have aK6 : ∀ a ∈ [aw, D], ∀ o, H6 a = some o → AlK CK o := by
          intro a m o e
          simp only [List.mem_cons, List.not_mem_nil, or_false] at m
          rcases m with rfl | rfl
          · rw [e16] at e
            cases e
            exact ⟨alien_ins, fun dx' fs e => by injection e with e1 _ _; exact neK e1⟩
          · rw [eD6] at e; cases e; exact ⟨alien_dK0, fun _ _ e => nomatch e⟩
        have hk7 := hk6.ch c7 aK6 (fun m => nk (by
          simp only [List.mem_cons, List.not_mem_nil, or_false] at m ⊢
          rcases m with h | h
          · exact .inl h
          · exact .inr (.inl h)))
        refine ⟨_, rfl, aw, dx, _, rfl, f1, lkn (by decide +kernel) (by decide +kernel) (by decide +kernel), _, rfl, aw, kd, sd, b, dx, _, last + 1, hb, true, _, _, rfl, f1, hk7, g26, gs6, hv6, fun H8 s8 => ⟨_, rfl, ?_⟩⟩
        have c8 : Ch [aw, sd] H H8 := fun c o e n => s8 _ _ (c7 _ _ (cc _ _ e n) (mb c (fun q => n (by rw [q]; simp)) fun q => by rw [q, nD0] at e; cases e))
        refine q b H8 c8 ⟨⟨dx, s8 _ _ f1⟩, _, s8 _ _ gs6, Rws.app ?_ (rws8 c8)⟩ (s8 _ _ g26)
        refine ⟨D, _, rfl, s8 _ _ f3, by decide +kernel, ?_, ?_⟩
        · rw [List.map_append, List.map_append, ek]; rfl
        · rw [List.map_append, List.map_append]
          refine DvL.app (l := [x, y, z, tagOf (kname true) (last + 1)]) (DvL.app (l := [x, y, z]) (ddv (Ch.trans c6 (Ch.trans (Ch.mono c7 (by simp)) (Ch.same s8)))) ⟨_, _, rfl, ⟨b, _, rfl, .inl (.inl (s8 _ _ g26)), _, _, rfl, rfl, _, _, rfl, rfl, _, _, rfl, rfl, rfl⟩, rfl⟩) ⟨_, _, rfl, ⟨b2, _, rfl, .inl (.inl (s8 _ _ f2)), _, _, rfl, rfl, _, _, rfl, rfl, _, _, rfl, ?_, rfl⟩, rfl⟩
          exact congrArg V.int (by omega)
end
end Kd

set_option Elab.async false
set_option linter.all false
set_option maxRecDepth 100000
set_option maxHeartbeats 4000000
/-! a statement that holds a dict or a list while it runs, and may raise -/
namespace L2
open PySem PySem.Spec PyProof.Rows
def tLockX (tb : WX → TS) (Wout : WX) : TS := fun D σ H => ∃ d u, H d = some u ∧ Mut (some u) ∧ ∀ od, tb (fun c e σ' H' => H' d = some (.frz od u) ∧ Wout c e σ' (upd H' d u)) ⟨fun σ' H' => H' d = some (.frz od u) ∧ D.nx σ' (upd H' d u), fun v H' => H' d = some (.frz od u) ∧ D.rt v (upd H' d u), fun σ' H' => H' d = some (.frz od u) ∧ D.bk σ' (upd H' d u), fun σ' H' => H' d = some (.frz od u) ∧ D.ct σ' (upd H' d u)⟩ σ (upd H d (.frz od u))
section
variable {X : Cx} {st : Stmt} {tb : WX → TS} {Wout : WX}
theorem ps_lockX (tk : Takes X Wout) (hp : PassesOwn (model X.prog X.w) X.A X.env X.xe)
    (hb : ∀ (W : WX) (pn : List (Addr × Obj)) (xe : Value → Shared → Prop), Takes (X.tr pn xe) W → PassesOwn (model X.prog X.w) X.A X.env xe → PS (X.tr pn xe) st (tb W)) : PS X st (tLockX tb Wout) := by
  refine ⟨fun pins s σ H D I hw => ?_⟩
  have ok := I.ok
  obtain ⟨d, u, hd, mu, hw⟩ := hw
  obtain ⟨od, I1⟩ := I.lock hd mu
  have nf := I.nofrz hd mu
  refine thn ((hb (fun c e σ' H' => H' d = some (.frz od u) ∧ Wout c e σ' (upd H' d u)) (X.pn ++ pins) X.xe (fun v s' xx => ?_) hp).run [] s σ _ _ (I1.toTry _) (hw od)) fun f s1 q => ?_
  · obtain ⟨a, B, sI, pins', σ', H', cls, d', rfl, J', nb, up, sky, na, os, ag, w1, w2⟩ := xx
    have J : Inv X pins σ' H' sI := J'.ofTry ok
    refine tk _ _ ⟨a, B, sI, pins, σ', upd H' d u, cls, d', rfl, J.unlock w1 nf, nb, up, sky, ?_, os, ag, w2⟩
    rw [upd_ne fun e => by rw [e, w1] at na; cases na]
    exact na
  · cases f with
    | next => obtain ⟨σ', H', I2, e, q⟩ := q; exact ⟨σ', _, (I2.ofTry ok).unlock e nf, q⟩
    | brk => obtain ⟨σ', H', I2, e, q⟩ := q; exact ⟨σ', _, (I2.ofTry ok).unlock e nf, q⟩
    | cont => obtain ⟨σ', H', I2, e, q⟩ := q; exact ⟨σ', _, (I2.ofTry ok).unlock e nf, q⟩
    | ret v => obtain ⟨x, σ', H', I2, r, e, q⟩ := q; exact ⟨x, σ', _, (I2.ofTry ok).unlock e nf, r, q⟩
end
end L2

set_option Elab.async false
set_option linter.all false
set_option maxRecDepth 100000
set_option maxHeartbeats 4000000
/-! tag in a list of tags -/
namespace Kd
open PySem PySem.Spec PyProof.Rows L2 Dq Vl Pf Ed ClX
abbrev Tg := Bool × Nat
def tgD (p : Tg) : D5 := tagOf (kname p.1) p.2
def tgP (p : Tg) : PyData := .tuple [.str "#", .str (kname p.1), .int (p.2 : Int)]
theorem kname_inj {a b : Bool} : (kname a = kname b) ↔ a = b := by
  cases a <;> cases b <;> simp [kname] <;> decide +kernel
theorem tgP_eqv (p q : Tg) : PyData.eqv (tgP p) (tgP q) = decide (p = q) := by
  obtain ⟨a, m⟩ := p
  obtain ⟨b, n⟩ := q
  rw [Bool.eq_iff_iff]
  have e1 : PyData.eqv (tgP (a, m)) (tgP (b, n)) = ((("#" : Str) == "#") && ((kname a == kname b) && (((m : Int) == (n : Int)) && true))) := by
    simp only [tgP, PyData.eqv, PyData.eqvAll]
  rw [e1, Bool.and_eq_true, Bool.and_eq_true, Bool.and_true, beq_iff_eq, beq_iff_eq, beq_iff_eq, kname_inj, decide_eq_true_eq, Prod.mk.injEq]
  exact ⟨fun h => ⟨h.2.1, by omega⟩, fun h => ⟨rfl, h.1, by omega⟩⟩
theorem tg_lay (p : Tg) : (tgP p).canLay0 = true ∧ (tgP p).depth ≤ 2 := by
  obtain ⟨a, m⟩ := p
  cases a
  · exact ⟨by simp [tgP, PyData.canLay0, PyData.canLayAll0, kname]; decide +kernel, by simp [tgP, PyData.depth, PyData.depthAll]⟩
  · exact ⟨by simp [tgP, PyData.canLay0, PyData.canLayAll0, kname]; decide +kernel, by simp [tgP, PyData.depth, PyData.depthAll]⟩
theorem tg_shaped (p : Tg) : SeqAt.shaped (tgP p) = true := by
  obtain ⟨a, b⟩ := tg_lay p
  unfold SeqAt.shaped
  rw [a, decide_eq_true (by omega)]
  rfl
theorem tgs_lay : ∀ l : List Tg, PyData.canLayAll0 (l.map tgP) = true ∧ PyData.depthAll (l.map tgP) ≤ 2
  | [] => ⟨rfl, by simp [PyData.depthAll]⟩
  | p :: l => by
    obtain ⟨a, b⟩ := tg_lay p
    obtain ⟨c, d⟩ := tgs_lay l
    rw [List.map_cons, PyData.canLayAll0, PyData.depthAll, a, c]
    exact ⟨rfl, by omega⟩
theorem tgs_shaped (l : List Tg) : SeqAt.shaped (.list (l.map tgP)) = true := by
  obtain ⟨a, b⟩ := tgs_lay l
  unfold SeqAt.shaped
  rw [PyData.canLay0, a, PyData.depth, decide_eq_true (by omega)]
  rfl
theorem dp_tg {K : PySem.W.Frag} {H : Hp} {p : Tg} {v : V} (h : Dv (O5 K) H (tgD p) v) : Dp K H v (tgP p) := by
  obtain ⟨a, us, rfl, ha, u1, r1, rfl, rfl, u2, r2, rfl, rfl, u3, r3, rfl, rfl, e3⟩ := h
  cases (show r3 = [] from e3)
  exact .tup ha (.cons (.str _) (.cons (.str _) (.cons (.int _) .nil)))
theorem dp_tgs {K : PySem.W.Frag} {H : Hp} : ∀ {l : List Tg} {us : List V}, DvL (O5 K) H (l.map tgD) us → DpAll K H us (l.map tgP)
  | [], _, h => by cases h; exact .nil
  | p :: l, _, ⟨u, us, e, h, r⟩ => by
    subst e
    exact .cons (dp_tg h) (dp_tgs r)
end Kd

set_option Elab.async false
set_option linter.all false
set_option maxRecDepth 100000
set_option maxHeartbeats 4000000
/-! World: destroy -/
namespace Kd
open PySem PySem.Spec PyProof.Rows L2 Dq Vl Pf Ed ClX
def koR (r : Ro) : Bool := decide (r.kind = "other")
def TgR (r : Ro) : Tg := (koR r, r.n)
def unTg : D5 → Option Tg
  | .tup [.str _, .str k, .int n] => some (decide (k = "other"), n.toNat)
  | _ => none
def tgsR (hb : Bool) (r : Ro) : List Tg := (heldR hb (koR r) r).filterMap unTg
structure OkW (hb : Bool) (r : Ro) : Prop where
  ok : OkR r
  kd : r.kind = kname (koR r)
  tg : heldR hb (koR r) r = (tgsR hb r).map tgD
def useB (hb : Bool) (t : Tg) (r : Ro) : Bool := !decide (TgR r = t) && (tgsR hb r).any fun z => decide (z = t)
def useR (hb : Bool) (rows : List Ro) (t : Tg) : Option Ro := rows.find? (useB hb t)
def dropR (rows : List Ro) (t : Tg) : List Ro := rows.filter fun r => !decide (TgR r = t)
theorem ps_as {X : Cx} {st : Stmt} {t t' : TS} (h : PS X st t) (e : t' = t) : PS X st t' := e ▸ h
theorem hu64 {k : Nat} {A : Around} (hr : Room k A) : A.units + 64 < cLine := by have := hr.un; omega
theorem find_nd {rows : List Ro} (o : ∀ r ∈ rows, r.kind = kname (koR r)) (nd : (rows.map TgR).Nodup) {r : Ro} (h : r ∈ rows) : findR rows (kname (koR r)) r.n = some r := by
  induction rows with
  | nil => cases h
  | cons x rows ih =>
    rw [List.map_cons, List.nodup_cons] at nd
    unfold findR at *
    rw [List.find?_cons]
    have e : isRow (kname (koR r)) r.n x = decide (TgR x = TgR r) := by
      unfold isRow
      rw [o x List.mem_cons_self, Bool.eq_iff_iff]
      simp [TgR, kname_inj]
    rw [e]
    rcases List.mem_cons.mp h with rfl | h
    · simp
    · rw [decide_eq_false fun q => nd.1 (by rw [q]; exact List.mem_map_of_mem h)]
      exact ih (fun r' hr => o r' (List.mem_cons_of_mem _ hr)) nd.2 h
theorem find_fst {α : Type} {p : α → Bool} : ∀ {l : List α} {i : Nat} {x : α}, l[i]? = some x → (∀ y ∈ l.take i, p y = false) → p x = true → l.find? p = some x
  | y :: l, 0, x, e, _, h => by cases e; rw [List.find?_cons, h]
  | y :: l, i + 1, x, e, n, h => by
    rw [List.find?_cons, n y (by simp)]
    exact find_fst (i := i) (by simpa using e) (fun z hz => n z (by simp [hz])) h
abbrev sDes : Stmt := inClass (tp 34) 6
abbrev NDes : List Str := ["self", "tag", "other"]
theorem scDes : FnScope NDes ["self", "tag"] (defScope sDes) := ⟨rfl, rfl, rfl, by decide +kernel, rfl, by decide +kernel, by decide +kernel⟩
def spDes (K : PySem.W.Frag) (CW CK CG CU : Addr) : Sp := fun vs H Q E => ∃ (aw kd sd : Addr) (v : V) (d : D5) (rows : List Ro) (last : Int) (hb : Bool), vs = [.ref aw, v] ∧ WAt K CW H aw kd sd rows last ∧ KAt K CK H kd hb ∧ TArg K H d v ∧ (∀ r ∈ rows, OkW hb r) ∧ (rows.map TgR).Nodup ∧ rows.length ≤ 1000 ∧
  (hasD rows d = false → ∀ (e p : Addr) (H' : Hp), Same H H' → H' e = some (.xd [("tag", v), ("told", .ref p)]) → E (.ref CG) (some e) H') ∧
  ∀ t : Tg, d = tgD t → hasD rows d = true → (∀ r, useR hb rows t = some r → ∀ (e p u : Addr) (H' : Hp), Same H H' → H' e = some (.xd [("tag", .ref u), ("told", .ref p)]) → H' u = some (.tup [.str "#", .str r.kind, .int (r.n : Int)]) → E (.ref CU) (some e) H') ∧
    (useR hb rows t = none → ∀ H', Ch [sd] H H' → WAt K CW H' aw kd sd (dropR rows t) last → Q .non H')
theorem tgR_key {r : Ro} {t : Tg} (h : r.kind = kname (koR r)) : decide (keyR r = keyT (kname t.1) t.2) = decide (TgR r = t) := by
  obtain ⟨a, n⟩ := t
  show decide (keyT r.kind r.n = keyT (kname a) n) = _
  rw [keyT_eq, h, Bool.eq_iff_iff]
  simp [TgR, kname_inj]
theorem Rws.drop {K : PySem.W.Frag} {H : Hp} {t : Tg} : ∀ {rows : List Ro} {kvs : List (List Key × V)}, (∀ r ∈ rows, r.kind = kname (koR r)) → Rws K H rows kvs → Rws K H (dropR rows t) (dropK kvs (keyT (kname t.1) t.2))
  | [], _, _, h => by cases h; rfl
  | r :: rs, _, o, ⟨v, kvs, e, h, p⟩ => by
    subst e
    have ih := Rws.drop (t := t) (fun r' hr => o r' (List.mem_cons_of_mem _ hr)) p
    have k := tgR_key (t := t) (o r List.mem_cons_self)
    unfold dropR dropK at *
    by_cases q : TgR r = t
    · have q2 : keyR r = keyT (kname t.1) t.2 := of_decide_eq_true (k.trans (decide_eq_true q))
      rw [List.filter_cons_of_neg (by simp [q]), List.filter_cons_of_neg (by simp [q2])]
      exact ih
    · have q2 : ¬ keyR r = keyT (kname t.1) t.2 := of_decide_eq_false (k.trans (decide_eq_false q))
      rw [List.filter_cons_of_pos (by simp [q]), List.filter_cons_of_pos (by simp [q2])]
      exact ⟨v, _, rfl, h, ih⟩
theorem tag_eqv {a b : Bool} {m n : Nat} : eqvL5 [.str "#", .str (kname a), .int (m : Int)] [.str "#", .str (kname b), .int (n : Int)] = some (decide (((a, m) : Tg) = (b, n))) := by
  have e1 : strE "#" (.str "#") = some true := by decide +kernel
  have e2 : strE (kname a) (.str (kname b)) = some (decide (a = b)) := by cases a <;> cases b <;> decide +kernel
  have e3 : intE (m : Int) (.int (n : Int)) = some (decide (m = n)) := by
    show some ((m : Int) == (n : Int)) = _
    congr 1
    rw [Bool.eq_iff_iff, beq_iff_eq, decide_eq_true_eq]
    omega
  rw [e5L_cc, e5_str, e1, if_pos rfl, e5L_cc, e5_str, e2]
  by_cases q : a = b
  · rw [decide_eq_true q, if_pos rfl, e5L_cc, e5_int, e3]
    by_cases q2 : m = n
    · rw [decide_eq_true q2, if_pos rfl, e5L_nn, q, q2, decide_eq_true rfl]
    · rw [decide_eq_false q2, if_neg (by simp), decide_eq_false (fun e => q2 (Prod.mk.inj e).2)]
  · rw [decide_eq_false q, if_neg (by simp), decide_eq_false (fun e => q (Prod.mk.inj e).1)]
theorem tag_kn {a b c d : Str} {m n : Int} {j : Nat} (h : j < ([.str a, .str b, .int m] : List D5).length) : (eqv5 (([.str a, .str b, .int m] : List D5).getD j .non) (([.str c, .str d, .int n] : List D5).getD j .non)).isSome = true := by
  match j, h with
  | 0, _ => show (eqv5 (.str a) (.str c)).isSome = true; rw [e5_str]; rfl
  | 1, _ => show (eqv5 (.str b) (.str d)).isSome = true; rw [e5_str]; rfl
  | 2, _ => show (eqv5 (.int m) (.int n)).isSome = true; rw [e5_int]; rfl
  | j + 3, h => exact absurd (show j + 3 < 3 from h) (by omega)
section
variable {P : Program} {w : World} {K : PySem.W.Frag} {mg : Str → Option Value} {base : Heap} {CW CK CG CU fX fU : Addr}
theorem ok_des {f fG fH : Addr} {fd fdG fdH : FuncData} (F : Fun K "destroy" "World.destroy" sDes f fd) (T : TxtW K mg CW) (TK : TxtKi K mg CK) (MG : Meth K CW "_refuse_gone" fG) (GG : FnOk P w K mg base (L2.CX P w) 5 fG fdG ["self", "tag"] (spRG K CW CG)) (bG : Binds K fdG ["self", "tag"] [])
    (MH : Meth K CW "_held_by" fH) (GH : FnOk P w K mg base CX0 4 fH fdH ["self", "tag"] (spHB K CW CK)) (bH : Binds K fdH ["self", "tag"] []) (TU : TxtX P w K mg base "InUse" CU "tag" fU) (neK : CW ≠ CK) :
    FnOk P w K mg base (L2.CX P w) 6 f fd ["self", "tag"] (spDes K CW CK CG CU) := by
  refine F.okX scDes (fun vs H Q E h => ?_) (fun cdv A outer s H vs Q E hr h => ?_)
  · obtain ⟨aw, kd, sd, v, d, rows, last, hb, rfl, _⟩ := h
    rfl
  · obtain ⟨aw, kd, sd, v, d, rows, last, hb, rfl, hw, hk, hv, ow, nd, rl, q1, q2⟩ := h
    refine ⟨_, pss_cons (ps_expr (pe_meth (E := E) (pv 0) T.cl MG GG (hr.mono (by decide)) bG .nil (passes_call (takes_of rfl rfl rfl rfl) fun _ _ _ _ h => h) (pa_cons (pv 1) pa_nil)))
      (pss_cons (ps_lockX (tb := fun W => tFor (iKeys (tFld K (tVar 0) "_standing")) (gName 2) (tIfS (tAnd (tTest (tOp (rNe5 K) (tVar 2) (tVar 1))) (tTest (tOp (rInD K) (tVar 1) (tMeth CW "_held_by" (spHB K CW CK) [] E0 (tVar 0) (tCons (tVar 2) tNil))))) (Sup.tRz (cxOf (CX P w) P w K mg base NDes "World.destroy" (defScope sDes) f cdv A outer s H E) CU 1 ["tag"] (tCons (tVar 2) tNil) W) tNext)) (takes_of rfl rfl rfl rfl) (passes_of rfl) fun W pn xe tk hp => ps_as (ps_for hp rfl (pi_keys (pe_fld (pv 0) rfl)) (pg_name (i := 2) scDes.nd rfl (Or.inl rfl)) (pss_one (ps_if (PW.pt (pw_and (pt_cmpR (op_ne5 (hu64 hr)) (pv 2) (pv 1) (nomark _)) (pw_and1 (pt_cmpR (op_inD (hu65 hr)) (pv 1) (pe_meth (pv 0) T.cl MH GH (hr.mono (by decide)) bH .nil pass0 (pa_cons (pv 2) pa_nil)) (by rfl))))) (pss_one (Sup.ps_rz rfl rfl tk TU.oex (raises_own TU.oex.exC TU.oex.tyC) TU.iC TU.tI TU.F (by decide) (hr.mono (by decide)) rfl TU.mg (pa_cons (pv 2) pa_nil))) pss_nil))) rfl)
      (pss_one (ps_ddelT (hu_of hr) (pe_fld (pv 0) rfl) (pv 1)))), ?_⟩
    have P := kps5 (K := K)
    obtain ⟨dx, ew⟩ := hw.w
    obtain ⟨kvs, es, rr⟩ := hw.s
    have lkn : ∀ {nm : Str} {n : Int}, (nm == "_kinds") = false → (nm == "_standing") = false → (nm == "_last") = false → (wfl kd sd n).lookup nm = none := fun a b c => (lk_tl a).trans ((lk_tl b).trans ((lk_tl c).trans rfl))
    refine ⟨_, rfl, aw, dx, _, rfl, ew, lkn (by decide +kernel) (by decide +kernel) (by decide +kernel), _, rfl, aw, kd, sd, v, d, rows, last, rfl, hw, hv, fun eh H1 s1 => ?_, fun eh => q1 eh⟩
    have okk : ∀ r ∈ rows, r.kind = kname (koR r) := fun r hr => (ow r hr).kd
    have etg : tagD d = true := by
      unfold hasD at eh
      rw [Bool.and_eq_true] at eh
      exact eh.1
    obtain ⟨b, k, n, rfl, hb0, rfl⟩ := hv.tg etg
    obtain ⟨r0, hr0⟩ : ∃ r0, findR rows k n = some r0 := by
      unfold hasD at eh
      rw [Bool.and_eq_true, rowD_tag] at eh
      exact Option.isSome_iff_exists.mp eh.2
    have m0 : r0 ∈ rows := List.mem_of_find?_eq_some hr0
    have p0 : isRow k n r0 = true := List.find?_some hr0
    unfold isRow at p0
    rw [Bool.and_eq_true, decide_eq_true_eq, decide_eq_true_eq] at p0
    have ek : k = kname (koR r0) := p0.1.symm.trans (okk r0 m0)
    obtain ⟨u2, u3⟩ := q2 (koR r0, n) (by rw [ek]; rfl) eh
    subst ek
    have nws : aw ≠ sd := fun e => by rw [e, es] at ew; cases ew
    have nbs : b ≠ sd := fun e => by rw [e, es] at hb0; cases hb0
    refine ⟨sd, .dT kvs, s1 _ _ es, True.intro, fun od => ?_⟩
    have f2 : (upd H1 sd (.frz od (.dT kvs))) sd = some (.frz od (.dT kvs)) := upd_same
    have c2 : Ch [sd] H (upd H1 sd (.frz od (.dT kvs))) := Ch.trans (Ch.same s1) (Ch.upd (by simp))
    have back : ∀ {H5 : Hp}, Same (upd H1 sd (.frz od (.dT kvs))) H5 → Same H (upd H5 sd (.dT kvs)) := fun s5 c o e => by
      by_cases q : c = sd
      · rw [q, es] at e; cases e; rw [q]; exact upd_same
      · rw [upd_ne q]; exact s5 _ _ (c2 _ _ e (by simpa using q))
    generalize upd H1 sd (.frz od (.dT kvs)) = H2 at f2 c2 back
    have alT : ∀ a ∈ [sd], ∀ o, H a = some o → AlK CK o ∧ ∀ Ks, Alien Ks o := fun a m o e => by
      rw [List.mem_singleton.mp m, es] at e
      cases e
      exact ⟨⟨⟨fun xs e => (nomatch e), fun o xs e => (nomatch e), fun kvs' ks e hk => (nomatch e)⟩, fun _ _ e => (nomatch e)⟩, fun Ks => ⟨fun xs e => (nomatch e), fun o xs e => (nomatch e), fun kvs' ks e hk => (nomatch e)⟩⟩
    have ew2 := c2 _ _ ew (by simpa using nws)
    have hb2 := c2 _ _ hb0 (by simpa using nbs)
    have hk2 : KAt K CK H2 kd hb := hk.ch c2 (fun a m o e => (alT a m o e).1) (by
      obtain ⟨ak, ao, ekd, _, _⟩ := hk.at_
      intro m
      rw [List.mem_singleton.mp m, es] at ekd
      cases ekd)
    have rr2 : Rws K H2 rows kvs := Rws.ch c2 (fun a m o e => (alT a m o e).2 _) (fun r hr => (ow r hr).ok) rr
    refine ⟨_, rfl, aw, CW, dx, _, _, rfl, ew2, T.cl, T.n2, wl2, sd, od, rfl, .inr ⟨kvs, f2, ?_⟩⟩
    refine for_it (walk_keysT (d := sd) (o := od) (kvs := kvs)) (fun i σ' H' => (∃ w0, σ' = [some (.ref aw), some (.ref b), w0]) ∧ Same H2 H' ∧ ∀ r ∈ rows.take i, useB hb (koR r0, n) r = false) ⟨⟨_, rfl⟩, Same.refl _, fun r hr => by simp at hr⟩ (fun i σ' H' _ p => p.2.1 _ _ f2) (fun i x σ' H3 H3' hi p y => ?_) (fun σ' H9 p => ?_)
    · obtain ⟨⟨w0, rfl⟩, s3, nu⟩ := p
      obtain ⟨rfl, kk, v, q, ekv, rfl, hq⟩ := y
      obtain ⟨r, er, rfl, hrv⟩ := rr2.get ekv
      have mr := List.mem_of_getElem? er
      have hq : H3' q = some (.tup [.str "#", .str r.kind, .int (r.n : Int)]) := hq
      rw [okk r mr] at hq
      have hb3 := s3 _ _ hb2
      have ew3 := s3 _ _ ew2
      have d1 : ∀ {H4 : Hp}, Same H3' H4 → Dv (O5 K) H4 (tgD (koR r, r.n)) (.ref q) := fun s4 => ⟨q, _, rfl, .inl (.inl (s4 _ _ hq)), _, _, rfl, rfl, _, _, rfl, rfl, _, _, rfl, rfl, rfl⟩
      have d2 : ∀ {H4 : Hp}, Same H3' H4 → Dv (O5 K) H4 (tgD (koR r0, n)) (.ref b) := fun s4 => ⟨b, _, rfl, .inl (.inl (s4 _ _ hb3)), _, _, rfl, rfl, _, _, rfl, rfl, _, _, rfl, rfl, rfl⟩
      have t1 := et_ne5 (K := K) (σ := [some (.ref aw), some (.ref b), some (.ref q)]) (H := H3') (ta := tVar 2) (tb := tVar 1) (ed_pv P rfl (d1 (Same.refl _))) (ed_pv P rfl (d2 (Same.refl _))) tag_eqv (fun j h1 h2 => tag_kn h1) (by simp [dpL, dp])
      have rrq := rr2.same s3
      have okr := (ow r mr)
      have an : ((tgsR hb r).map tgP).any (fun z => PyData.eqv z (tgP (koR r0, n))) = (tgsR hb r).any fun z => decide (z = (koR r0, n)) := by
        rw [List.any_map]
        congr 1
        funext z
        exact tgP_eqv z _
      have t2 : ET (tTest (tOp (rInD K) (tVar 1) (tMeth CW "_held_by" (spHB K CW CK) [] E0 (tVar 0) (tCons (tVar 2) tNil)))) [some (.ref aw), some (.ref b), some (.ref q)] H3' ((tgsR hb r).any fun z => decide (z = (koR r0, n))) := fun H4 s4 Q4 k4 => by
        refine ⟨_, rfl, _, rfl, aw, dx, _, rfl, s4 _ _ ew3, lkn (by decide +kernel) (by decide +kernel) (by decide +kernel), _, rfl, aw, kd, sd, q, dx, last, r.n, hb, koR r, kvs, rows, r, rfl, s4 _ _ ew3, hk2.same (Same.trans s3 s4), s4 _ _ hq, .inr ⟨od, s4 _ _ (s3 _ _ f2)⟩, rrq.same s4, find_nd okk nd mr, okr.ok, fun v' H5 s5 hd5 => ?_⟩
        rw [okr.tg] at hd5
        obtain ⟨a5, us5, rfl, ha5, hu5⟩ := hd5
        exact ⟨tgP (koR r0, n), (tgsR hb r).map tgP, dp_tg (d2 (Same.trans s4 s5)), .lst (SqL.of ha5) (dp_tgs hu5), tg_shaped _, tgs_shaped _, _, rfl, by rw [an]; exact k4 H5 s5⟩
      refine (et_andI (c := (tgsR hb r).any fun z => decide (z = (koR r0, n))) t1 fun _ => t2).run fun H4 s4 => ?_
      cases eu : useB hb (koR r0, n) r with
      | true =>
        refine Vl.iteC eu ⟨_, rfl, rfl, fun c o e => ?_, fun e p H5 n1 k2 ee => ⟨k2 _ _ (s4 _ _ (s3 _ _ f2)), ?_⟩⟩
        · by_cases qc : c = sd
          · rw [qc, s4 _ _ (s3 _ _ f2)]; simp
          · rw [s4 _ _ (s3 _ _ (c2 _ _ e (by simpa using qc)))]; simp
        · have hu : useR hb rows (koR r0, n) = some r := find_fst er nu eu
          have nes : e ≠ sd := fun z => by rw [z, s4 _ _ (s3 _ _ f2)] at n1; cases n1
          have nqs : q ≠ sd := fun z => by rw [z, s3 _ _ f2] at hq; cases hq
          refine u2 r hu e p q (upd H5 sd (.dT kvs)) (back (Same.trans s3 (Same.trans s4 k2))) ((upd_ne nes).trans ee) ?_
          rw [upd_ne nqs, okk r mr]
          exact k2 _ _ (s4 _ _ hq)
      | false =>
        refine Vl.iteN eu ⟨⟨_, rfl⟩, Same.trans s3 s4, fun r' hr' => ?_⟩
        rw [List.take_succ, er] at hr'
        rcases List.mem_append.mp hr' with h | h
        · exact nu r' h
        · have : r' = r := by simpa using h
          rw [this]
          exact eu
    · obtain ⟨⟨w0, rfl⟩, s3, nu⟩ := p
      rw [rr.len, List.take_length] at nu
      have no : useR hb rows (koR r0, n) = none := by
        unfold useR
        rw [List.find?_eq_none]
        intro r hr
        rw [nu r hr]
        simp
      obtain ⟨val, ev, _⟩ := (rws_get (kname (koR r0)) n rr).2 r0 hr0
      have sb := back s3
      refine ⟨s3 _ _ f2, ?_⟩
      have hs9 : (upd H9 sd (.dT kvs)) sd = some (.dT kvs) := upd_same
      generalize upd H9 sd (.dT kvs) = H10 at sb hs9
      refine ⟨_, rfl, aw, CW, dx, _, _, rfl, sb _ _ ew, T.cl, T.n2, wl2, _, rfl, sd, kvs, keyT (kname (koR r0)) n, b, val, rfl, rfl, hs9, sb _ _ hb0, ev, ?_⟩
      have cz : Ch [sd] H (upd H10 sd (.dT (dropK kvs (keyT (kname (koR r0)) n)))) := Ch.trans (Ch.same sb) (Ch.upd (by simp))
      exact u3 no _ cz ⟨⟨dx, cz _ _ ew (by simpa using nws)⟩, _, upd_same, Rws.drop (t := (koR r0, n)) okk (Rws.ch cz (fun a m o e => (alT a m o e).2 _) (fun r hr => (ow r hr).ok) rr)⟩
end
end Kd

set_option Elab.async false
set_option linter.all false
set_option maxRecDepth 100000
set_option maxHeartbeats 4000000
/-! the law's model: _law_model, _law_tag, _law_is_tag -/
namespace Kd
open PySem PySem.Spec PyProof.Rows L2 Dq Vl Pf Ed ClX
abbrev mkv (tb rl : Addr) (last : Int) : List (Key × V) := [(.inr "tables", .ref tb), (.inr "rows", .ref rl), (.inr "told", .int last)]
theorem mkv1 {tb rl : Addr} {n : Int} : valV (mkv tb rl n) (.inr "tables" : Key) = some (.ref tb) := by simp [valV]
theorem mkv2 {tb rl : Addr} {n : Int} : valV (mkv tb rl n) (.inr "rows" : Key) = some (.ref rl) := by
  have : ¬ (("tables" : Str) = "rows") := by decide +kernel
  simp [valV, this]
theorem mkv3 {tb rl : Addr} {n : Int} : valV (mkv tb rl n) (.inr "told" : Key) = some (.int n) := by
  have h1 : ¬ (("tables" : Str) = "told") := by decide +kernel
  have h2 : ¬ (("rows" : Str) = "told") := by decide +kernel
  simp [valV, h1, h2]
theorem mkv3p {tb rl : Addr} {n m : Int} : putK (mkv tb rl n) (.inr "told" : Key) (.int m) = mkv tb rl m := by
  have h1 : ¬ (("tables" : Str) = "told") := by decide +kernel
  have h2 : ¬ (("rows" : Str) = "told") := by decide +kernel
  simp [putK, h1, h2]
theorem mkv2p {tb rl rl' : Addr} {n : Int} : putK (mkv tb rl n) (.inr "rows" : Key) (.ref rl') = mkv tb rl' n := by
  have h1 : ¬ (("tables" : Str) = "rows") := by decide +kernel
  have h2 : ¬ (("told" : Str) = "rows") := by decide +kernel
  simp [putK, h1, h2]
abbrev sLT : Stmt := tp 45
abbrev NLT : List Str := ["_law_m", "_law_kind"]
theorem scLT : FnScope NLT NLT (defScope sLT) := ⟨rfl, rfl, rfl, by decide +kernel, rfl, by decide +kernel, by decide +kernel⟩
def spLT : Sp := fun vs H Q _ => ∃ (am tb rl : Addr) (s : Str) (n : Int), vs = [.ref am, .str s] ∧ H am = some (.dK (mkv tb rl n)) ∧
  ∀ (b : Addr) H', Ch [am] H H' → H b = none → H' am = some (.dK (mkv tb rl (n + 1))) → H' b = some (.tup [.str "#", .str s, .int (n + 1)]) → Q (.ref b) H'
abbrev sLI : Stmt := tp 51
theorem scLI : FnScope ["_law_value"] ["_law_value"] (defScope sLI) := ⟨rfl, rfl, rfl, by decide +kernel, rfl, by decide +kernel, by decide +kernel⟩
def ltagD : D5 → Bool
  | .tup [.str m, _, _] => decide (m = "#")
  | _ => false
section
variable {P : Program} {w : World} {K : PySem.W.Frag} {mg : Str → Option Value} {base : Heap}
theorem ok_lt {f : Addr} {fd : FuncData} (F : Fun K "_law_tag" "_law_tag" sLT f fd) : FnOk P w K mg base CX0 1 f fd NLT spLT := by
  refine F.ok scLT (fun vs H Q E h => ?_) (fun cdv A outer s H vs Q E hr h => ?_)
  · obtain ⟨am, tb, rl, s, n, rfl, _⟩ := h
    rfl
  · obtain ⟨am, tb, rl, s, n, rfl, hm, q⟩ := h
    refine ⟨_, pss_cons (ps_dput (hu_of hr) (pv 0) pe_str (pe_op op_add (pe_dget (hu_of hr) (pv 0) pe_str (fun _ _ => rfl)) pe_int) (by rfl))
      (pss_one (ps_ret (pe_tup (pa_cons pe_str (pa_cons (pv 1) (pa_cons (pe_dget (hu_of hr) (pv 0) pe_str (fun _ _ => rfl)) pa_nil)))))), ?_⟩
    refine ⟨_, rfl, am, .int n, rfl, .inl ⟨_, .inr "told", .inl hm, rfl, mkv3.symm⟩, n, 1, rfl, rfl, _, rfl, am, _, rfl, DPut.k (k := .inr "told") hm (by show 3 < sizeLine; decide), ?_⟩
    rw [mkv3p]
    refine ⟨_, rfl, _, rfl, am, .int (n + 1), rfl, .inl ⟨_, .inr "told", .inl upd_same, rfl, mkv3.symm⟩, by show 3 ≤ sizeLine; decide, fun b nb => ?_⟩
    have nba : b ≠ am := fun e => by rw [e, upd_same] at nb; cases nb
    have nb0 : H b = none := by rwa [upd_ne nba] at nb
    exact q b _ (Ch.updNew (Ch.upd (by simp)) nb0) nb0 ((upd_ne (Ne.symm nba)).trans upd_same) upd_same
theorem ok_li {f : Addr} {fd : FuncData} (F : Fun K "_law_is_tag" "_law_is_tag" sLI f fd) (T : TxtV mg) : FnOk P w K mg base CX0 1 f fd ["_law_value"] (spV K (fun _ => true) ltagD) := by
  refine F.ok scLI (fun vs H Q E h => ?_) (fun cdv A outer s H vs Q E hr h => ?_)
  · obtain ⟨v, d, rfl, _⟩ := h
    rfl
  · obtain ⟨v, d, rfl, hd, _, q⟩ := h
    refine ⟨_, pss_one (ps_ret (pe_and (pe_callB (call_is6 (T := "tuple") (by simp)) (by rfl) T.isi (by decide +kernel) (pa_cons (pv 0) (pa_cons (pe_bltn (v := .ty "tuple") (by rfl) T.tuple (by decide +kernel) rfl) pa_nil)))
      (pe_and (pe_cmpR op_eq (pe_callB call_len_seq (by rfl) T.len PySem.boot_len (pa_cons (pv 0) pa_nil)) pe_int (nomark _))
      (pe_and (pe_callB (call_is6 (T := "str") (by simp)) (by rfl) T.isi (by decide +kernel) (pa_cons (pe_ixT (pv 0) pe_int (fun _ _ => rfl)) (pa_cons (pe_bltn (v := .ty "str") (by rfl) T.str (by decide +kernel) rfl) pa_nil)))
      (pe_one (pe_cmpR op_eq (pe_ixT (pv 0) pe_int (fun _ _ => rfl)) pe_str (nomark _))))))), ?_⟩
    have P := kps5 (K := K)
    have h0 : ∀ {σ : L2.St}, σ[0]? = some (some v) → ED (O5 K) (tVar 0) σ H d := fun e => ed_pv P e hd
    have no : ltagD d = false → ∀ u H2, Same H H2 → u = .bl false → Q u H2 := fun e u H2 s2 eu => by rw [eu, ← e]; exact q H2 s2
    obtain ⟨l, rfl⟩ | ht : (∃ l, d = .tup l) ∨ isT6 "tuple" d = false := by
      cases d with
      | tup l => exact .inl ⟨l, rfl⟩
      | _ => exact .inr rfl
    case inr =>
      have : ltagD d = false := by
        cases d with
        | tup l => cases ht
        | _ => rfl
      have h1 := eb_is6 (T := "tuple") (h0 (σ := [some v]) rfl)
      rw [ht] at h1
      exact EP.ret (eb_and (b := false) (c := false) h1 fun e => nomatch e) (no this)
    have h1 := eb_is6 (T := "tuple") (h0 (σ := [some v]) rfl)
    have h2 := eb_eq (ep_lenT P (h0 (σ := [some v]) rfl)) (ep_int2 (i := 3)) rfl
    by_cases el : l.length = 3
    case neg =>
      have : ltagD (.tup l) = false := by
        match l, el with
        | [], _ => rfl
        | [m], _ => cases m <;> rfl
        | [m, _], _ => cases m <;> rfl
        | [_, _, _], el => exact absurd rfl el
        | m :: _ :: _ :: _ :: _, _ => cases m <;> rfl
      rw [show decide (V.int (l.length : Int) = V.int 3) = false from decide_eq_false fun e => el (by injection e with e; omega)] at h2
      exact EP.ret (eb_and (b := true) (c := false) h1 fun _ => eb_and (b := false) (c := false) h2 fun e => nomatch e) (no this)
    obtain ⟨m, k, n, rfl⟩ : ∃ m k n, l = [m, k, n] := by
      match l, el with
      | [m, k, n], _ => exact ⟨m, k, n, rfl⟩
    have h3 := eb_is6 (T := "str") (ed_ixT P (i := 0) (l := [m, k, n]) (d := m) (h0 (σ := [some v]) rfl) rfl)
    by_cases em : isT6 "str" m = true
    case neg =>
      have em := (Bool.not_eq_true _).mp em
      rw [em] at h3
      have : ltagD (.tup [m, k, n]) = false := by
        cases m with
        | str z => cases em
        | _ => rfl
      exact EP.ret (eb_and (b := true) (c := false) h1 fun _ => eb_and (b := true) (c := false) h2 fun _ => eb_and (b := false) (c := false) h3 fun e => nomatch e) (no this)
    obtain ⟨z, rfl⟩ : ∃ z, m = .str z := by
      cases m with
      | str z => exact ⟨z, rfl⟩
      | bl b => simp [isT6] at em
      | _ => cases em
    have h4 := eb_eq (y := .str "#") (ed_ixT P (i := 0) (l := [.str z, k, n]) (d := .str z) (h0 (σ := [some v]) rfl) rfl).ep ep_str rfl
    refine EP.ret (eb_and (b := true) (c := decide (V.str z = V.str "#")) h1 fun _ => eb_and (b := true) (c := decide (V.str z = V.str "#")) h2 fun _ => eb_and (b := true) (c := decide (V.str z = V.str "#")) h3 fun _ => h4) fun u H2 s2 e => ?_
    rw [e, show (true && decide (V.str z = V.str "#")) = ltagD (.tup [.str z, k, n]) from decide_eq_decide.mpr ⟨fun e => V.str.inj e, fun e => by rw [e]⟩]
    exact q H2 s2
end
end Kd

set_option Elab.async false
set_option linter.all false
set_option maxRecDepth 100000
set_option maxHeartbeats 4000000
/-! the values that the law draws; _law_holds -/
namespace Kd
open PySem PySem.Spec PyProof.Rows L2 Dq Vl Pf Ed ClX
/-- what _law_naming gives -/
inductive Vn where
  | non
  | tg (p : Tg)
  | one (p : Tg)
  | two (o p : Tg)
  | tN (p : Tg)
  | tX (p : Tg)
  | mp (p : Tg)
  | nest (p : Tg)
  | emp
  | x
  | num (n : Nat)
def vD : Vn → D5
  | .non => .non
  | .tg p => tgD p
  | .one p => .tup [tgD p]
  | .two o p => .tup [tgD o, tgD p]
  | .tN p => .tup [tgD p, .non]
  | .tX p => .tup [tgD p, .str "x"]
  | .mp p => .map ["x"] [tgD p]
  | .nest p => .tup [.tup [tgD p]]
  | .emp => .tup []
  | .x => .str "x"
  | .num n => .int (n : Int)
def vT : Vn → List Tg
  | .tg p => [p]
  | .one p => [p]
  | .two o p => [o, p]
  | _ => []
/-- the number of a Tag is from 1 on -/
def vOk : Vn → Prop
  | .tg p => 1 ≤ p.2
  | .one p => 1 ≤ p.2
  | .two o p => 1 ≤ o.2 ∧ 1 ≤ p.2
  | .tN p => 1 ≤ p.2
  | .tX p => 1 ≤ p.2
  | .mp p => 1 ≤ p.2
  | .nest p => 1 ≤ p.2
  | _ => True
theorem tg_is {p : Tg} (h : 1 ≤ p.2) : tagD (tgD p) = true := by
  obtain ⟨a, n⟩ := p
  have e : nmD (.str (kname a) : D5) = true := by cases a <;> decide +kernel
  have h : 1 ≤ n := h
  show (decide (("#" : Str) = "#") && (nmD (.str (kname a) : D5) && decide ((1 : Int) ≤ (n : Int)))) = true
  rw [e, decide_eq_true (show (1 : Int) ≤ (n : Int) by omega), decide_eq_true rfl]
  rfl
theorem tg_okTag {p : Tg} : okTag (tgD p) = true := by
  obtain ⟨a, n⟩ := p
  show decide ((kname a).length ≤ 1000) = true
  cases a <;> decide +kernel
theorem tg_non {p : Tg} : tagD (.tup [tgD p]) = false := rfl
theorem vD_tags {v : Vn} (h : vOk v) : tagsL (vD v) = (vT v).map tgD := by
  have go : ∀ l : List D5, tagsL (.tup l) = if tagD (.tup l) = true then [.tup l] else if l.all tagD = true then l else [] := fun l => rfl
  cases v with
  | non => rfl
  | tg p =>
    show tagsL (tgD p) = _
    have e := go [.str "#", .str (kname p.1), .int (p.2 : Int)]
    rw [if_pos (show tagD (.tup [.str "#", .str (kname p.1), .int (p.2 : Int)]) = true from tg_is h)] at e
    exact e
  | one p =>
    have e := go [tgD p]
    rw [if_neg (by rw [tg_non]; decide), if_pos (by rw [List.all_cons, tg_is h]; rfl)] at e
    exact e
  | two o p =>
    have e := go [tgD o, tgD p]
    rw [if_neg (show ¬ tagD (.tup [tgD o, tgD p]) = true from fun z => nomatch z), if_pos (by rw [List.all_cons, List.all_cons, tg_is h.1, tg_is h.2]; rfl)] at e
    exact e
  | tN p =>
    have e := go [tgD p, .non]
    rw [if_neg (show ¬ tagD (.tup [tgD p, .non]) = true from fun z => nomatch z), if_neg (by rw [List.all_cons, List.all_cons]; simp [tagD])] at e
    exact e
  | tX p =>
    have e := go [tgD p, .str "x"]
    rw [if_neg (show ¬ tagD (.tup [tgD p, .str "x"]) = true from fun z => nomatch z), if_neg (by rw [List.all_cons, List.all_cons]; simp [tagD])] at e
    exact e
  | mp p => rfl
  | nest p =>
    have e := go [.tup [tgD p]]
    rw [if_neg (show ¬ tagD (.tup [.tup [tgD p]]) = true from fun z => nomatch z), if_neg (by rw [List.all_cons, tg_non]; simp)] at e
    exact e
  | emp => rfl
  | x => rfl
  | num n => rfl
/-! ### data without maps, as == takes it -/
mutual
def pyOk : D5 → Bool
  | .non => true
  | .bl _ => true
  | .int _ => true
  | .str s => PyData.strOk s
  | .tup l => pyOkL l
  | _ => false
def pyOkL : List D5 → Bool
  | [] => true
  | x :: l => pyOk x && pyOkL l
end
mutual
def pyD : D5 → PyData
  | .non => .none
  | .bl b => .bool b
  | .int i => .int i
  | .str s => .str s
  | .tup l => .tuple (pyL l)
  | _ => .none
def pyL : List D5 → List PyData
  | [] => []
  | x :: l => pyD x :: pyL l
end
mutual
theorem dp_py {K : PySem.W.Frag} {H : Hp} : ∀ (d : D5) (v : V), pyOk d = true → Dv (O5 K) H d v → Dp K H v (pyD d)
  | .non, _, _, h => by cases h; exact .non
  | .bl b, _, _, h => by cases h; exact .bl b
  | .int i, _, _, h => by cases h; exact .int i
  | .str s, _, _, h => by cases h; exact .str s
  | .tup l, _, o, ⟨a, us, e, ha, p⟩ => by
    subst e
    rw [pyOk] at o
    rw [pyD]
    exact .tup ha (dp_pyL l us o p)
  | .lst l, _, o, _ => by rw [pyOk] at o; cases o; all_goals (intros; rename_i z; cases z)
  | .map ks l, _, o, _ => by rw [pyOk] at o; cases o; all_goals (intros; rename_i z; cases z)
  | .ob u, _, o, _ => by rw [pyOk] at o; cases o; all_goals (intros; rename_i z; cases z)
theorem dp_pyL {K : PySem.W.Frag} {H : Hp} : ∀ (l : List D5) (us : List V), pyOkL l = true → DvL (O5 K) H l us → DpAll K H us (pyL l)
  | [], _, _, h => by cases h; rw [pyL]; exact .nil
  | x :: l, _, o, ⟨u, us, e, h, p⟩ => by
    subst e
    rw [pyOkL, Bool.and_eq_true] at o
    rw [pyL]
    exact .cons (dp_py x u o.1 h) (dp_pyL l us o.2 p)
end
theorem dp_lst {K : PySem.W.Frag} {H : Hp} {l : List D5} {v : V} (o : pyOkL l = true) (h : Dv (O5 K) H (.lst l) v) : Dp K H v (.list (pyL l)) := by
  obtain ⟨a, us, rfl, ha, p⟩ := h
  exact .lst (SqL.of ha) (dp_pyL l us o p)
end Kd

set_option Elab.async false
set_option linter.all false
set_option maxRecDepth 100000
set_option maxHeartbeats 4000000
/-! _law_holds -/
namespace Ed
open PySem PySem.Spec PyProof.Rows L2 Dq Vl Kd
variable {K : PySem.W.Frag} {σ : L2.St} {H : Hp} {te ta tb : TE}
theorem eb_eq5 {l m : List D5} {b : Bool} (h : ED (O5 K) ta σ H (.tup l)) (h2 : ED (O5 K) tb σ H (.tup m)) (q : eqvL5 l m = some b) (hd : dpL l ≤ 30) : EB (tOp (rEq5 K) ta tb) σ H b := fun H1 s Q k =>
  h H1 s _ fun v H2 s2 hv => h2 H2 (Same.trans s s2) _ fun u H3 s3 hu => ⟨l, m, b, (kps5 (K := K)).dv s3 hv, hu, q, hd, k _ H3 (Same.trans s2 s3) rfl⟩
/-- a list of plain data != [] -/
theorem et_neL {l : List D5} (h : ED (O5 K) ta σ H (.lst l)) (o : pyOkL l = true) (sh : SeqAt.shaped (.list (pyL l)) = true) : ET (tTest (tOp (rNeD K) ta (tLst tNil))) σ H (!l.isEmpty) := fun H1 s Q k =>
  h H1 s _ fun v H2 s2 hv => ⟨by show 0 ≤ sizeLine; decide, fun p np => ⟨.list (pyL l), .list [], dp_lst o ((kps5 (K := K)).dv (sm_upd np) hv), .lst (SqL.of upd_same) .nil, sh, by decide +kernel, _, rfl, by
    have e : PyData.eqv (.list (pyL l)) (.list []) = l.isEmpty := by
      rw [PyData.eqv]
      cases l with
      | nil => rw [pyL, PyData.eqvAll]; rfl
      | cons x l => rw [pyL, PyData.eqvAll]; rfl
    rw [e]
    exact k _ (Same.trans s2 (sm_upd np))⟩⟩
theorem eb_inT {ds : List PyData} {d : PyData} (h : EP ta σ H fun v H2 => ∀ H3, Same H2 H3 → Dp K H3 v d) (h2 : EP tb σ H fun v H2 => Dp K H2 v (.tuple ds)) (s1 : SeqAt.shaped d = true) (s2 : SeqAt.shaped (.tuple ds) = true) : EB (tOp (rInTD K) ta tb) σ H (ds.any fun z => PyData.eqv z d) := fun H1 s Q k =>
  h H1 s _ fun v H2 sa hv => h2 H2 (Same.trans s sa) _ fun u H3 sb hu => ⟨d, ds, hv H3 sb, hu, s1, s2, k _ H3 (Same.trans sa sb) rfl⟩
end Ed
namespace Kd
open PySem PySem.Spec PyProof.Rows L2 Dq Vl Pf Ed ClX
theorem tgsT_shaped (l : List Tg) : SeqAt.shaped (.tuple (l.map tgP)) = true := by
  obtain ⟨a, b⟩ := tgs_lay l
  unfold SeqAt.shaped
  rw [PyData.canLay0, a, PyData.depth, decide_eq_true (by omega)]
  rfl
theorem nolL_mem5 : ∀ {l : List D5}, nolL l = true → ∀ x ∈ l, nol x = true
  | y :: l, h, x, hx => by
    rw [nolL, Bool.and_eq_true] at h
    rcases List.mem_cons.mp hx with rfl | hx
    · exact h.1
    · exact nolL_mem5 h.2 x hx
/-- the parts of a value -/
def vL : Vn → Option (List D5)
  | .one p => some [tgD p]
  | .two o p => some [tgD o, tgD p]
  | .tN p => some [tgD p, .non]
  | .tX p => some [tgD p, .str "x"]
  | .nest p => some [.tup [tgD p]]
  | .emp => some []
  | _ => none
/-- the parts that are no Tags -/
def vO : Vn → List D5
  | .tN _ => [.non]
  | .tX _ => [.str "x"]
  | .nest p => [.tup [tgD p]]
  | _ => []
theorem ltg (p : Tg) : ltagD (tgD p) = true := rfl
theorem vO_eq {x : Vn} {l : List D5} (h : vL x = some l) : (l.filterMap fun y => if ltagD y = true then none else some y) = vO x := by
  cases x <;> first | (cases h; rfl) | cases h
theorem vO_ok (x : Vn) : pyOkL (vO x) = true ∧ SeqAt.shaped (.list (pyL (vO x))) = true := by
  have c0 : pyOkL [] = true ∧ SeqAt.shaped (.list (pyL [])) = true := ⟨by decide +kernel, by decide +kernel⟩
  have c1 : pyOkL [.non] = true ∧ SeqAt.shaped (.list (pyL [.non])) = true := ⟨by decide +kernel, by decide +kernel⟩
  have c2 : pyOkL [.str "x"] = true ∧ SeqAt.shaped (.list (pyL [.str "x"])) = true := ⟨by decide +kernel, by decide +kernel⟩
  cases x with
  | tN p => exact c1
  | tX p => exact c2
  | nest p =>
    obtain ⟨a, b⟩ := tg_lay p
    refine ⟨?_, ?_⟩
    · obtain ⟨c, n⟩ := p
      have e : PyData.strOk (kname c) = true := by cases c <;> decide +kernel
      have e2 : PyData.strOk "#" = true := by decide +kernel
      simp [vO, pyOkL, pyOk, tgD, tagOf, e, e2]
    · have e : pyL (vO (.nest p)) = [.tuple [tgP p]] := by simp [vO, pyL, pyD, tgD, tagOf, tgP]
      rw [e]
      have c : (PyData.list [PyData.tuple [tgP p]]).canLay0 = true := by simp only [PyData.canLay0, PyData.canLayAll0, a, Bool.and_true]
      have d : (PyData.list [PyData.tuple [tgP p]]).depth ≤ 64 := by simp only [PyData.depth, PyData.depthAll]; omega
      unfold SeqAt.shaped
      rw [c, decide_eq_true d]
      rfl
  | _ => exact c0
abbrev sLH : Stmt := tp 52
abbrev NLH : List Str := ["_law_value", "_law_tag_here", "_law_part"]
theorem scLH : FnScope NLH ["_law_value", "_law_tag_here"] (defScope sLH) := ⟨rfl, rfl, rfl, by decide +kernel, rfl, by decide +kernel, by decide +kernel⟩
def spLH (K : PySem.W.Frag) : Sp := fun vs H Q _ => ∃ (v t : V) (x : Vn) (p : Tg), vs = [v, t] ∧ Dv (O5 K) H (vD x) v ∧ Dv (O5 K) H (tgD p) t ∧ ∀ H', Same H H' → Q (.bl ((vT x).any fun z => decide (z = p))) H'
section
variable {P : Program} {w : World} {K : PySem.W.Frag} {mg : Str → Option Value} {base : Heap}
theorem ok_lh {f fI : Addr} {fd fdI : FuncData} (F : Fun K "_law_holds" "_law_holds" sLH f fd) (T : TxtV mg) (DI : Def P w K mg base 1 "_law_is_tag" fI fdI ["_law_value"] (spV K (fun _ => true) ltagD)) : FnOk P w K mg base CX0 2 f fd ["_law_value", "_law_tag_here"] (spLH K) := by
  refine F.ok scLH (fun vs H Q E h => ?_) (fun cdv A outer s H vs Q E hr h => ?_)
  · obtain ⟨v, t, x, p, rfl, _⟩ := h
    rfl
  · obtain ⟨v, t, x, p, rfl, hv, ht, q⟩ := h
    refine ⟨_, pss_cons (ps_if (pt_val (pe_call DI.ok (hr.mono (by decide)) rfl DI.g DI.kp DI.b .nil pass0 (pa_cons (pv 0) pa_nil))) (pss_one (ps_ret (pe_cmpR (op_eq5 (hu64 hr)) (pv 0) (pv 1) (nomark _)))) pss_nil)
      (pss_cons (ps_if (PW.pt (pw_or (pt_not (pt_val (pe_callB (call_is6 (T := "tuple") (by simp)) (by rfl) T.isi (by decide +kernel) (pa_cons (pv 0) (pa_cons (pe_bltn (v := .ty "tuple") (by rfl) T.tuple (by decide +kernel) rfl) pa_nil)))))
          (pw_or1 (pt_cmpR (op_neD (hu64 hr)) (pe_lc (own := [("_law_part", 2)]) (g := gName 2) rfl scLH.nd (pi_tup (pv 0)) (blkOk_by (N := NLH) (sc := defScope sLH) (by decide +kernel)) (fun _ _ _ _ _ => pg_name (i := 2) scLH.nd rfl (Or.inl rfl))
            (fun _ _ _ _ _ => pts_one (pt_not (pt_val (pe_call DI.ok (hr.mono (by decide)) rfl DI.g DI.kp DI.b .nil pass0 (pa_cons (pv 2) pa_nil))))) (fun _ _ _ _ _ => pv 2)) (pe_lst pa_nil) (nomark _)))))
        (pss_one (ps_ret pe_bl)) pss_nil)
      (pss_one (ps_ret (pe_cmpR (op_inTD (hu65 hr)) (pv 1) (pv 0) (by rfl))))), ?_⟩
    have P := kps5 (K := K)
    have h0 : ∀ {σ : L2.St} {H' : Hp}, Same H H' → σ[0]? = some (some v) → ED (O5 K) (tVar 0) σ H' (vD x) := fun s e => ed_pv P e (P.dv s hv)
    have hT : ∀ {σ : L2.St} {H' : Hp}, Same H H' → σ[1]? = some (some t) → ED (O5 K) (tVar 1) σ H' (tgD p) := fun s e => ed_pv P e (P.dv s ht)
    have is_tag : ∀ {σ : L2.St} {H' : Hp} {i : Nat} {u : V} {y : D5}, σ[i]? = some (some u) → Dv (O5 K) H' y u → EB (tCall (spV K (fun _ => true) ltagD) [] E0 (tCons (tVar i) tNil)) σ H' (ltagD y) := fun e hu H2 s2 Q2 q2 => ⟨_, e, _, _, rfl, P.dv s2 hu, rfl, fun H3 s3 => q2 _ H3 s3 rfl⟩
    have t1 := et_t (is_tag (σ := [some v, some t, none]) (i := 0) rfl hv)
    have no : vT x = [] → ∀ u H2, Same H H2 → u = .bl false → Q u H2 := fun e u H2 s2 eu => by have := q H2 s2; rw [e] at this; rw [eu]; exact this
    refine ET.ite t1 (fun et H1 s1 => ?_) fun et H1 s1 => ?_
    · obtain ⟨z, rfl⟩ : ∃ z, x = .tg z := by
        cases x <;> first | exact ⟨_, rfl⟩ | (simp [vD, ltagD, tgD, tagOf] at et)
      refine EP.ret (eb_eq5 (l := [.str "#", .str (kname z.1), .int (z.2 : Int)]) (m := [.str "#", .str (kname p.1), .int (p.2 : Int)]) (h0 s1 rfl) (hT s1 rfl) (tag_eqv (a := z.1) (b := p.1) (m := z.2) (n := p.2)) (by simp [dpL, dp])) fun u H2 s2 e => ?_
      rw [e]
      have := q H2 (Same.trans s1 s2)
      rw [show (vT (.tg z)).any (fun z => decide (z = p)) = decide (z = p) from by simp [vT]] at this
      exact this
    · cases el : vL x with
      | none =>
        have nt : isT6 "tuple" (vD x) = false ∧ vT x = [] := by
          cases x <;> first | exact ⟨rfl, rfl⟩ | (cases el; done) | (cases et; done)
        have h1 := et_not (et_t (eb_is6 (T := "tuple") (h0 (σ := [some v, some t, none]) s1 rfl)))
        rw [nt.1] at h1
        exact ET.ite (b := true) (et_orI (b := true) (c := false) h1 fun e => nomatch e) (fun _ H2 s2 => no nt.2 _ H2 (Same.trans s1 s2) rfl) (fun e => nomatch e)
      | some l =>
        have ev : vD x = .tup l := by cases x <;> first | (cases el; rfl) | cases el
        have h1 := et_not (et_t (eb_is6 (T := "tuple") (h0 (σ := [some v, some t, none]) s1 rfl)))
        rw [ev] at h1
        have hl : ED (O5 K) (tVar 0) [some v, some t, none] H1 (.tup l) := ev ▸ h0 s1 rfl
        have ll : l.length ≤ 10000 := by cases x <;> first | (cases el; simp) | cases el
        have nl : nolL l = true := by cases x <;> first | (cases el; simp [nolL, nol, tgD, tagOf]) | cases el
        have lc := ed_lcD (K := K) (tt := tNot (tTest (tCall (spV K (fun _ => true) ltagD) [] E0 (tCons (tVar 2) tNil)))) (te := tVar 2) (i := 2) (f := fun y => if ltagD y = true then none else some y) hl ll (fun y hy d e => by
          split at e
          · cases e
          · cases e
            exact nolL_mem5 nl y hy) (fun u => rfl) fun y u H2 N M hy s2 hu q1 q2 =>
          (et_not (et_t (is_tag (i := 2) rfl hu))).run fun H3 s3 => by
            cases eb : ltagD y with
            | true => exact Vl.iteN rfl (q2 (by rw [if_pos eb]) H3 s3)
            | false => exact Vl.iteC rfl ⟨u, rfl, q1 y (by rw [if_neg (by rw [eb]; decide)]) u H3 s3 (P.dv s3 hu)⟩
        rw [vO_eq el] at lc
        have h2 := et_neL lc (vO_ok x).1 (vO_ok x).2
        cases eo : (vO x).isEmpty with
        | false =>
          rw [eo] at h2
          have nt : vT x = [] := by cases x <;> first | rfl | (cases eo; done)
          exact ET.ite (b := true) (et_orI (b := false) (c := true) h1 fun _ => h2) (fun _ H2 s2 => no nt _ H2 (Same.trans s1 s2) rfl) (fun e => nomatch e)
        | true =>
          rw [eo] at h2
          refine ET.ite (b := false) (et_orI (b := false) (c := false) h1 fun _ => h2) (fun e => nomatch e) fun _ H2 s2 => ?_
          have s12 := Same.trans s1 s2
          have e2 : vD x = .tup ((vT x).map tgD) := by cases x <;> first | (cases el; done) | (cases eo; done) | rfl
          refine EP.ret (eb_inT (d := tgP p) (ds := (vT x).map tgP) (ep_pv rfl fun H3 s3 H4 s4 => dp_tg (P.dv (Same.trans s12 (Same.trans s3 s4)) ht)) (ep_pv rfl fun H3 s3 => by
            have := P.dv (Same.trans s12 s3) hv
            rw [e2] at this
            obtain ⟨a, us, rfl, ha, hu⟩ := this
            exact .tup ha (dp_tgs hu)) (tg_shaped p) (tgsT_shaped _)) fun u H3 s3 e => ?_
          rw [e, List.any_map]
          have := q H3 (Same.trans s12 s3)
          rw [show (vT x).any ((fun z => PyData.eqv z (tgP p)) ∘ tgP) = (vT x).any fun z => decide (z = p) from by congr 1; funext z; exact tgP_eqv z p]
          exact this
end
end Kd

set_option Elab.async false
set_option linter.all false
set_option maxRecDepth 100000
set_option maxHeartbeats 4000000
/-! the tables; _law_around, _law_marks -/
namespace Kd
open PySem PySem.Spec PyProof.Rows L2 Dq Vl Pf Ed ClX
abbrev tabK : List Str := ["name", "given", "made", "single", "holds"]
def tabD (hb ko : Bool) : D5 := .map tabK [.str (kname ko), gvn, mdn ko, .non, hln hb ko]
def tabsD (hb : Bool) : D5 := .map ["k", "other"] [tabD hb false, tabD hb true]
abbrev sLA : Stmt := tp 46
abbrev NLA : List Str := ["_law_table", "_law_kept", "_law_name", "_law_rule", "_law_value", "_law_text"]
theorem scLA : FnScope NLA ["_law_table", "_law_kept"] (defScope sLA) := ⟨rfl, rfl, rfl, by decide +kernel, rfl, by decide +kernel, by decide +kernel⟩
def spLA (K : PySem.W.Frag) : Sp := fun vs H Q _ => ∃ (t k : V) (hb ko : Bool), vs = [t, k] ∧ Dv (O5 K) H (tabD hb ko) t ∧ ∀ H', Same H H' → Q .non H'
abbrev sLM : Stmt := tp 47
abbrev NLM : List Str := ["_law_m", "_law_kind", "_law_kept", "_law_table", "_law_name", "_law_rule"]
theorem scLM : FnScope NLM ["_law_m", "_law_kind", "_law_kept"] (defScope sLM) := ⟨rfl, rfl, rfl, by decide +kernel, rfl, by decide +kernel, by decide +kernel⟩
def spLM (K : PySem.W.Frag) : Sp := fun vs H Q _ => ∃ (am tb rl m : Addr) (last : Int) (hb ko : Bool) (mk : List (Key × V)), vs = [.ref am, .str (kname ko), .ref m] ∧ H am = some (.dK (mkv tb rl last)) ∧ Dv (O5 K) H (tabsD hb) (.ref tb) ∧ H m = some (.dK mk) ∧
  mk.map (·.1) = (["a", "b", "c", "id"] : List Str).map Sum.inr ∧ (ko = false → ∀ H', Same H H' → Q .non H') ∧
  (ko = true → ∀ (b : Addr) H', Ch [am, m] H H' → H' am = some (.dK (mkv tb rl (last + 1))) → H' b = some (.tup [.str "#", .str (kname ko), .int (last + 1)]) → H' m = some (.dK (mk ++ [(.inr "m", .ref b)])) → Q .non H')
section
variable {P : Program} {w : World} {K : PySem.W.Frag} {mg : Str → Option Value} {base : Heap}
theorem ok_la {f : Addr} {fd : FuncData} (F : Fun K "_law_around" "_law_around" sLA f fd) : FnOk P w K mg base CX0 1 f fd ["_law_table", "_law_kept"] (spLA K) := by
  refine F.ok scLA (fun vs H Q E h => ?_) (fun cdv A outer s H vs Q E hr h => ?_)
  · obtain ⟨t, k, hb, ko, rfl, _⟩ := h
    rfl
  · obtain ⟨t, k, hb, ko, rfl, ht, q1⟩ := h
    refine ⟨_, pss_one (ps_for PassesOwn.never rfl (pi_tup (pe_dget (hu_of hr) (pv 0) pe_str (fun _ _ => rfl))) (pg_tup rfl (pgs_cons (pg_name (i := 2) scLA.nd rfl (Or.inl rfl)) (pgs_cons (pg_name (i := 3) scLA.nd rfl (Or.inl rfl)) pgs_nil)))
      (pss_one (ps_if (pt_cmpR op_eq (pe_ixT (pv 3) pe_int (fun _ _ => rfl)) pe_str (nomark _)) Ow.pss_nv pss_nil))), ?_⟩
    have P := kps5 (K := K)
    have skip : ∀ {w0 w1 w2 w3 : Option V} {H2 : Hp} {t2 : TS} {D : Ends} {u : V} {s z : Str}, (z = "id" ∨ z = "mark") → Dv (O5 K) H2 (.tup [.str s, .tup [.str z]]) u → (∀ v1 v2 H3, Same H2 H3 → D.nx [some t, some k, some v1, some v2, w2, w3] H3) →
        gTup K 2 (gCons (gName 2) (gCons (gName 3) gNil)) u [some t, some k, w0, w1, w2, w3] H2 fun σ2 H3 => tIfS (tTest (tOp rEq (tOp (rIxT K) (tVar 3) (tC (.int 0))) (tC (.str "around")))) t2 tNext D σ2 H3 := fun {w0 w1 w2 w3 H2 t2 D u s z} hz hu k' => g_pair hu fun v1 v2 h1 h2 => by
      have e0 : EP (tOp (rIxT K) (tVar 3) (tC (.int 0))) [some t, some k, some v1, some v2, w2, w3] H2 fun v _ => v = .str z := ed_ixT P (i := 0) (l := [.str z]) (ed_pv P rfl h2) rfl
      have := et_t (eb_eq (y := .str "around") e0 ep_str rfl)
      rw [show decide (V.str z = V.str "around") = false by rcases hz with rfl | rfl <;> decide +kernel] at this
      exact ET.skip1 this fun H3 s3 => k' v1 v2 H3 s3
    have ml : ED (O5 K) (tDGet (tVar 0) (tC (.str "made"))) [some t, some k, none, none, none, none] H (.tup (if ko then [rId, rMk] else [rId])) := ed_get (i := 2) (ed_pv P rfl ht) ep_str rfl rfl
    refine for_tupD (S := []) ml (by cases ko <;> simp [kpt, kptL]) (fun a m => nomatch m) fun H1 s1 => ⟨fun i σ' H' => (∃ w0 w1 w2 w3, σ' = [some t, some k, w0, w1, w2, w3]) ∧ Same H1 H', ⟨⟨_, _, _, _, rfl⟩, Same.refl _⟩, fun i σ' H' _ p => Ch.same p.2, fun i d u σ' H' e p hd => ?_, fun σ' H' p => q1 H' (Same.trans s1 p.2)⟩
    obtain ⟨⟨w0, w1, w2, w3, rfl⟩, s2⟩ := p
    obtain ⟨s, z, hz, rfl⟩ : ∃ s z, (z = ("id" : Str) ∨ z = ("mark" : Str)) ∧ d = .tup [.str s, .tup [.str z]] := by
      have mem := List.mem_of_getElem? e
      cases ko with
      | false => simp at mem; exact ⟨_, _, .inl rfl, mem⟩
      | true =>
        simp at mem
        rcases mem with rfl | rfl
        · exact ⟨_, _, .inl rfl, rfl⟩
        · exact ⟨_, _, .inr rfl, rfl⟩
    exact skip hz hd fun v1 v2 H3 s3 => ⟨⟨_, _, _, _, rfl⟩, Same.trans s2 s3⟩
theorem ok_lm {f fT fA : Addr} {fd fdT fdA : FuncData} (F : Fun K "_law_marks" "_law_marks" sLM f fd) (DT : Def P w K mg base 1 "_law_tag" fT fdT NLT spLT) (DA : Def P w K mg base 1 "_law_around" fA fdA ["_law_table", "_law_kept"] (spLA K)) : FnOk P w K mg base CX0 2 f fd ["_law_m", "_law_kind", "_law_kept"] (spLM K) := by
  refine F.ok scLM (fun vs H Q E h => ?_) (fun cdv A outer s H vs Q E hr h => ?_)
  · obtain ⟨am, tb, rl, m, last, hb, ko, mk, rfl, _⟩ := h
    rfl
  · obtain ⟨am, tb, rl, m, last, hb, ko, mk, rfl, hm, htb, hk, ek, q1, q2⟩ := h
    refine ⟨_, pss_cons (ps_set (i := 3) scLM.nd rfl (Or.inl rfl) (pe_dget (hu_of hr) (pe_dget (hu_of hr) (pv 0) pe_str (fun _ _ => rfl)) (pv 1) (fun _ _ => rfl)))
      (pss_cons (ps_for PassesOwn.never rfl (pi_tup (pe_dget (hu_of hr) (pv 3) pe_str (fun _ _ => rfl))) (pg_tup rfl (pgs_cons (pg_name (i := 4) scLM.nd rfl (Or.inl rfl)) (pgs_cons (pg_name (i := 5) scLM.nd rfl (Or.inl rfl)) pgs_nil)))
        (pss_one (ps_if (pt_cmpR op_eq (pe_ixT (pv 5) pe_int (fun _ _ => rfl)) pe_str (nomark _)) (pss_one (ps_dput (hu_of hr) (pv 2) (pv 4) (pe_call DT.ok (hr.mono (by decide)) rfl DT.g DT.kp DT.b .nil pass0 (pa_cons (pv 0) (pa_cons (pv 1) pa_nil))) (by rfl))) pss_nil)))
      (pss_one (ps_expr (pe_call DA.ok (hr.mono (by decide)) rfl DA.g DA.kp DA.b .nil pass0 (pa_cons (pv 3) (pa_cons (pv 2) pa_nil)))))), ?_⟩
    have P := kps5 (K := K)
    have nma : m ≠ am := fun e => by
      rw [e, hm] at hk
      cases hk
      have := congrArg List.length ek
      simp at this
    have tabE : ED (O5 K) (tDGet (tDGet (tVar 0) (tC (.str "tables"))) (tVar 1)) [some (.ref am), some (.str (kname ko)), some (.ref m), none, none, none] H (tabD hb ko) := by
      have e1 : ED (O5 K) (tDGet (tVar 0) (tC (.str "tables"))) [some (.ref am), some (.str (kname ko)), some (.ref m), none, none, none] H (tabsD hb) := (ep_dK (R := fun v H => Dv (O5 K) H (tabsD hb) v) (ep_pv rfl fun H2 s2 => ⟨am, _, _, rfl, s2 _ _ hm, mkv1, fun H3 s3 => P.dv (Same.trans s2 s3) htb⟩) ep_str).ed
      cases ko
      · exact ed_get (i := 0) e1 (ep_v rfl) rfl rfl
      · exact ed_get (i := 1) e1 (ep_v rfl) rfl rfl
    refine tabE.seq fun t H0 s0 ht => ?_
    have hm0 := s0 _ _ hm
    have hk0 := s0 _ _ hk
    show tSeq _ _ _ [some (.ref am), some (.str (kname ko)), some (.ref m), some t, none, none] H0
    have ml : ED (O5 K) (tDGet (tVar 3) (tC (.str "made"))) [some (.ref am), some (.str (kname ko)), some (.ref m), some t, none, none] H0 (.tup (if ko then [rId, rMk] else [rId])) := ed_get (i := 2) (ed_pv P rfl ht) ep_str rfl rfl
    have skip : ∀ {w0 w1 : Option V} {H2 : Hp} {t2 : TS} {D : Ends} {u : V}, Dv (O5 K) H2 (.tup [.str "id", .tup [.str "id"]]) u → (∀ v1 v2 H3, Same H2 H3 → D.nx [some (.ref am), some (.str (kname ko)), some (.ref m), some t, some v1, some v2] H3) →
        gTup K 2 (gCons (gName 4) (gCons (gName 5) gNil)) u [some (.ref am), some (.str (kname ko)), some (.ref m), some t, w0, w1] H2 fun σ2 H3 => tIfS (tTest (tOp rEq (tOp (rIxT K) (tVar 5) (tC (.int 0))) (tC (.str "mark")))) t2 tNext D σ2 H3 := fun hu k => g_pair hu fun v1 v2 h1 h2 => by
      have e0 : EP (tOp (rIxT K) (tVar 5) (tC (.int 0))) [some (.ref am), some (.str (kname ko)), some (.ref m), some t, some v1, some v2] _ fun v _ => v = .str "id" := ed_ixT P (i := 0) (l := [.str "id"]) (ed_pv P rfl h2) rfl
      exact ET.skip1 (et_t (eb_eq (y := .str "mark") e0 ep_str rfl)) fun H3 s3 => k v1 v2 H3 s3
    have aT : ∀ a ∈ [am, m], ∀ o, H0 a = some o → Alien [tabK] o := by
      intro a mm o e
      simp only [List.mem_cons, List.not_mem_nil, or_false] at mm
      rcases mm with rfl | rfl
      · rw [hm0] at e; cases e
        refine alien_dk fun ks' hk' q => ?_
        rw [List.mem_singleton.mp hk'] at q
        have := congrArg List.length q
        simp at this
      · rw [hk0] at e; cases e
        refine alien_dk fun ks' hk' q => ?_
        rw [List.mem_singleton.mp hk', ek] at q
        have := congrArg List.length q
        simp at this
    have ktab : kpt [tabK] (tabD hb ko) = true := by
      have d1 : decide (tabK ∈ [tabK]) = true := by decide +kernel
      cases hb <;> cases ko <;> simp [tabD, kpt, kptL, d1, gvn, mdn, hln, hldN, rwG, rId, rMk]
    cases ko with
    | false =>
      refine for_tupD (S := []) (l := [rId]) ml (by simp [kpt, kptL]) (fun a m => nomatch m) fun H1 s1 => ⟨fun i σ' H' => (∃ w0 w1, σ' = [some (.ref am), some (.str (kname false)), some (.ref m), some t, w0, w1]) ∧ Same H1 H', ⟨⟨_, _, rfl⟩, Same.refl _⟩, fun i σ' H' _ p => Ch.same p.2, fun i d u σ' H' e p hd => ?_, fun σ' H' p => ?_⟩
      · obtain ⟨⟨w0, w1, rfl⟩, s2⟩ := p
        match i, e with
        | 0, e =>
          cases e
          exact skip hd fun v1 v2 H3 s3 => ⟨⟨_, _, rfl⟩, Same.trans s2 s3⟩
        | i + 1, e => cases e
      · obtain ⟨⟨w0, w1, rfl⟩, s2⟩ := p
        exact ⟨_, rfl, _, rfl, t, .ref m, hb, false, rfl, P.dv (Same.trans s1 s2) ht, fun H3 s3 => q1 rfl H3 (Same.trans s0 (Same.trans s1 (Same.trans s2 s3)))⟩
    | true =>
      refine for_tupD (S := [am, m]) (l := [rId, rMk]) ml (by simp [kpt, kptL]) (fun a mm => ?_) fun H1 s1 => ⟨fun i σ' H' => (∃ w0 w1, σ' = [some (.ref am), some (.str (kname true)), some (.ref m), some t, w0, w1]) ∧ Ch [am, m] H1 H' ∧ (i ≤ 1 → Same H1 H') ∧
          (i = 2 → ∃ b, H' am = some (.dK (mkv tb rl (last + 1))) ∧ H' b = some (.tup [.str "#", .str (kname true), .int (last + 1)]) ∧ H' m = some (.dK (mk ++ [(.inr "m", .ref b)]))),
        ⟨⟨_, _, rfl⟩, Ch.refl _ _, fun _ => Same.refl _, fun e => nomatch e⟩, fun i σ' H' _ p => p.2.1, fun i d u σ' H' e p hd => ?_, fun σ' H' p => ?_⟩
      · simp only [List.mem_cons, List.not_mem_nil, or_false] at mm
        rcases mm with rfl | rfl
        · exact ⟨_, hm0, alien_dK0⟩
        · exact ⟨_, hk0, alien_dK0⟩
      · obtain ⟨⟨w0, w1, rfl⟩, c2, s2, _⟩ := p
        match i, e with
        | 0, e =>
          cases e
          exact skip hd fun v1 v2 H3 s3 => ⟨⟨_, _, rfl⟩, Ch.trans c2 (Ch.same s3), fun _ => Same.trans (s2 (by omega)) s3, fun e => nomatch e⟩
        | 1, e =>
          cases e
          have s2 := Same.trans s1 (s2 (by omega))
          refine g_pair hd fun v1 v2 h1 h2 => ?_
          cases (show v1 = .str "m" from h1)
          have e0 : EP (tOp (rIxT K) (tVar 5) (tC (.int 0))) [some (.ref am), some (.str (kname true)), some (.ref m), some t, some (.str "m"), some v2] H' fun v _ => v = .str "mark" := ed_ixT P (i := 0) (l := [.str "mark"]) (ed_pv P rfl h2) rfl
          refine (et_t (eb_eq (y := .str "mark") e0 ep_str rfl)).run fun H3 s3 => Vl.iteC (by decide +kernel) ?_
          have s4 := Same.trans s2 s3
          have nm : valV mk (.inr "m" : Key) = none := by
            unfold valV
            rw [Option.map_eq_none_iff, List.find?_eq_none]
            intro p hp
            simp only [decide_eq_true_eq]
            intro q3
            have m1 : (Sum.inr "m" : Key) ∈ mk.map (·.1) := by rw [← q3]; exact List.mem_map_of_mem (f := (·.1)) hp
            rw [ek] at m1
            obtain ⟨y2, hy, e7⟩ := List.mem_map.mp m1
            cases e7
            revert hy
            decide +kernel
          have kl : mk.length = 4 := by
            have := congrArg List.length ek
            rwa [List.length_map, List.length_map] at this
          refine ⟨_, rfl, _, rfl, am, tb, rl, kname true, last, rfl, s4 _ _ hm0, fun b H5 c5 nb e1 e2 => ?_⟩
          have hk5 := c5 _ _ (s4 _ _ hk0) (by simpa using nma)
          have nbm : b ≠ m := fun e => by rw [e, s4 _ _ hk0] at nb; cases nb
          refine ⟨_, rfl, _, rfl, m, _, rfl, DPut.k (k := .inr "m") hk5 (by rw [kl]; decide), ⟨_, _, rfl⟩, Ch.trans c2 (Ch.trans (Ch.same s3) (Ch.trans (Ch.mono c5 (by simp)) (Ch.upd (by simp)))), fun e => by omega, fun _ => ⟨b, (upd_ne (Ne.symm nma)).trans e1, (upd_ne nbm).trans e2, by rw [upd_same, putK_new _ nm]⟩⟩
        | i + 2, e => cases e
      · obtain ⟨⟨w0, w1, rfl⟩, c2, _, g2⟩ := p
        obtain ⟨b, b1, b2, b3⟩ := g2 rfl
        have aT1 : ∀ a ∈ [am, m], ∀ o, H1 a = some o → Alien [tabK] o := fun a mm o e => by
          simp only [List.mem_cons, List.not_mem_nil, or_false] at mm
          rcases mm with rfl | rfl
          · rw [s1 _ _ hm0] at e; cases e; exact aT _ (by simp) _ hm0
          · rw [s1 _ _ hk0] at e; cases e; exact aT _ (by simp) _ hk0
        exact ⟨_, rfl, _, rfl, t, .ref m, hb, true, rfl, Dv.ch c2 aT1 _ _ ktab (P.dv s1 ht), fun H3 s3 => q2 rfl b H3 (Ch.trans (Ch.same (Same.trans s0 s1)) (Ch.trans c2 (Ch.same s3))) (s3 _ _ b1) (s3 _ _ b2) (s3 _ _ b3)⟩
end
end Kd

set_option Elab.async false
set_option linter.all false
set_option maxRecDepth 100000
set_option maxHeartbeats 4000000
/-! a comprehension over a list whose outputs are known values -/
namespace Ed
open PySem PySem.Spec PyProof.Rows L2 Dq Vl Kd
variable {K : PySem.W.Frag} {σ : L2.St} {H : Hp} {te ta tb : TE} {tt : TT}
def selV (n : Nat) (p : Nat → Bool) (out : Nat → V) : List V := (List.range n).filterMap fun j => if p j = true then some (out j) else none
theorem selV_succ {n : Nat} {p : Nat → Bool} {out : Nat → V} : selV (n + 1) p out = selV n p out ++ (if p n = true then [out n] else []) := by
  unfold selV
  rw [List.range_succ, List.filterMap_append]
  congr 1
  by_cases h : p n = true
  · simp [h]
  · simp [h]
theorem selV_len {n : Nat} {p : Nat → Bool} {out : Nat → V} : (selV n p out).length ≤ n := by
  have := List.length_filterMap_le (fun j => if p j = true then some (out j) else none) (List.range n)
  rwa [List.length_range] at this
theorem selV_none {n : Nat} {p : Nat → Bool} {out : Nat → V} (h : ∀ j, j < n → p j = false) : selV n p out = [] := by
  unfold selV
  rw [List.filterMap_eq_nil_iff]
  intro j hj
  rw [h j (List.mem_range.mp hj)]
  rfl
theorem ep_lcL {i : Nat} {xs : List V} {p : Nat → Bool} {out : Nat → V} (h : EP ta σ H fun v H2 => ∃ a, v = .ref a ∧ SqL K H2 a xs) (hl : xs.length ≤ 10000) (hw : ∀ u, wipe ((wipe σ [i]).set i (some u)) [i] = wipe σ [i])
    (ht : ∀ j x H2, xs[j]? = some x → Same H H2 → ET tt ((wipe σ [i]).set i (some x)) H2 (p j))
    (he : ∀ j x H2, xs[j]? = some x → Same H H2 → p j = true → EP te ((wipe σ [i]).set i (some x)) H2 fun v _ => v = out j) :
    EP (tLc (iList K ta) (gName i) tt te [i]) σ H fun v H2 => ∃ D, v = .ref D ∧ H2 D = some (.lst (selV xs.length p out)) := fun H1 s Q k =>
  h H1 s _ fun v H2 s2 ⟨a, e, ha⟩ => by
    subst e
    refine ⟨a, rfl, ⟨xs, ha⟩, fun D nD => ?_⟩
    refine lc_it (walk_list (xs := xs)) (fun j H' => Same H2 H' ∧ H' D = some (.lst (selV j p out))) ⟨sm_upd nD, upd_same⟩ (fun j H' _ q => SqL.same ha q.1) (fun j x H3 H3' hj q y => ?_) (fun H3 q => k _ H3 (Same.trans s2 q.1) ⟨D, rfl, q.2⟩)
    obtain ⟨s3, eD⟩ := q
    obtain ⟨rfl, ex⟩ := y
    have s03 := Same.trans s (Same.trans s2 s3)
    refine ⟨hw x, (ht j x H3' ex s03).run fun H4 s4 => ?_⟩
    cases ep : p j with
    | false => exact Vl.iteN rfl ⟨Same.trans s3 s4, by rw [selV_succ, ep, s4 _ _ eD]; simp⟩
    | true =>
      refine Vl.iteC rfl ((he j x H4 ex (Same.trans s03 s4) ep).run fun v H5 s5 ev => ?_)
      subst ev
      refine ⟨_, s5 _ _ (s4 _ _ eD), Nat.lt_of_le_of_lt selV_len (Nat.lt_of_le_of_lt (show j ≤ 10000 by omega) (by decide)), fun c o e => ?_, by rw [upd_same, selV_succ, ep]; rfl⟩
      have nc : c ≠ D := fun z => by rw [z, nD] at e; cases e
      rw [upd_ne nc]
      exact s5 _ _ (s4 _ _ (s3 _ _ e))
end Ed

set_option Elab.async false
set_option linter.all false
set_option maxRecDepth 100000
set_option maxHeartbeats 4000000
/-! the model; _law_taken -/
namespace Ed
open PySem PySem.Spec PyProof.Rows L2 Dq Vl Kd
variable {K : PySem.W.Frag} {σ : L2.St} {H : Hp} {te ta tb : TE}
theorem ep_ixL {i : Nat} {xs : List V} {u : V} (h : EP ta σ H fun v H2 => ∃ a, v = .ref a ∧ H2 a = some (.lst xs)) (e : xs[i]? = some u) : EP (tOp (rIxL K) ta (tC (.int (i : Int)))) σ H fun v _ => v = u := fun H1 s Q k =>
  h H1 s _ fun v H2 s2 ⟨a, ev, ha⟩ => ⟨a, xs, _, u, ev, rfl, SqL.of ha, atI_nat e, k u H2 s2 rfl⟩
theorem ep_cat {xs ys : List V} (h : EP ta σ H fun v H2 => ∃ a, v = .ref a ∧ H2 a = some (.lst xs)) (h2 : EP tb σ H fun v H2 => ∃ a, v = .ref a ∧ H2 a = some (.lst ys)) (hz : xs.length + ys.length ≤ 10000) : EP (tOp rCat ta tb) σ H fun v H2 => ∃ a, v = .ref a ∧ H2 a = some (.lst (xs ++ ys)) := fun H1 s Q k =>
  h H1 s _ fun v H2 s2 ⟨a, ev, ha⟩ => h2 H2 (Same.trans s s2) _ fun u H3 s3 ⟨b, eu, hb⟩ => ⟨a, b, xs, ys, ev, eu, s3 _ _ ha, hb, Nat.le_trans hz (by decide), fun p np => k _ _ (Same.upd (Same.trans s2 s3) np) ⟨p, rfl, upd_same⟩⟩
theorem ep_lstN : EP (tLst (tCons (tC .non) tNil)) σ H fun v H2 => ∃ a, v = .ref a ∧ H2 a = some (.lst [.non]) := fun H1 s Q k => ⟨by show 1 ≤ sizeLine; decide, fun p np => k _ _ (sm_upd np) ⟨p, rfl, upd_same⟩⟩
end Ed
namespace Kd
open PySem PySem.Spec PyProof.Rows L2 Dq Vl Pf Ed ClX
/-- the model's rows: lists of a Tag, a kind, what is kept -/
def MRows (K : PySem.W.Frag) (H : Hp) : List Ro → List V → Prop
  | [], vs => vs = []
  | r :: rs, vs => ∃ (l t d : Addr) (vs' : List V), vs = .ref l :: vs' ∧ H l = some (.lst [.ref t, .str r.kind, .ref d]) ∧ H t = some (.tup [.str "#", .str r.kind, .int (r.n : Int)]) ∧ Dv (O5 K) H (mapR r) (.ref d) ∧ MRows K H rs vs'
theorem MRows.same {K : PySem.W.Frag} {H H' : Hp} (s : Same H H') : ∀ {rs : List Ro} {vs : List V}, MRows K H rs vs → MRows K H' rs vs
  | [], _, h => h
  | r :: rs, _, ⟨l, t, d, vs', e, h1, h2, h3, p⟩ => ⟨l, t, d, vs', e, s _ _ h1, s _ _ h2, (kps5 (K := K)).dv s h3, p.same s⟩
theorem MRows.len {K : PySem.W.Frag} {H : Hp} : ∀ {rs : List Ro} {vs : List V}, MRows K H rs vs → vs.length = rs.length
  | [], _, h => by cases h; rfl
  | r :: rs, _, ⟨l, t, d, vs', e, h1, h2, h3, p⟩ => by subst e; exact congrArg (· + 1) p.len
theorem MRows.get {K : PySem.W.Frag} {H : Hp} : ∀ {rs : List Ro} {vs : List V} {i : Nat} {x : V}, MRows K H rs vs → vs[i]? = some x → ∃ r l t d, rs[i]? = some r ∧ x = .ref l ∧ H l = some (.lst [.ref t, .str r.kind, .ref d]) ∧ H t = some (.tup [.str "#", .str r.kind, .int (r.n : Int)]) ∧ Dv (O5 K) H (mapR r) (.ref d)
  | [], _, i, x, h, e => by cases h; cases e
  | r :: rs, _, 0, x, ⟨l, t, d, vs', e0, h1, h2, h3, p⟩, e => by subst e0; cases e; exact ⟨r, l, t, d, rfl, rfl, h1, h2, h3⟩
  | r :: rs, _, i + 1, x, ⟨l, t, d, vs', e0, h1, h2, h3, p⟩, e => by
    subst e0
    obtain ⟨r', l', t', d', q⟩ := p.get (i := i) (by simpa using e)
    exact ⟨r', l', t', d', by simpa using q.1, q.2⟩
structure MAt (K : PySem.W.Frag) (H : Hp) (am tb rl : Addr) (hb : Bool) (rows : List Ro) (last : Int) : Prop where
  m : H am = some (.dK (mkv tb rl last))
  t : Dv (O5 K) H (tabsD hb) (.ref tb)
  r : ∃ vs, H rl = some (.lst vs) ∧ MRows K H rows vs
theorem MAt.same {K : PySem.W.Frag} {H H' : Hp} {am tb rl : Addr} {hb : Bool} {rows : List Ro} {last : Int} (h : MAt K H am tb rl hb rows last) (s : Same H H') : MAt K H' am tb rl hb rows last := by
  obtain ⟨vs, e, p⟩ := h.r
  exact ⟨s _ _ h.m, (kps5 (K := K)).dv s h.t, vs, s _ _ e, p.same s⟩
section
variable {K : PySem.W.Frag} {σ : L2.St} {H : Hp} {am tb rl : Addr} {hb ko : Bool} {rows : List Ro} {last : Int} {i j : Nat}
/-- m['tables'][kind] -/
theorem ed_tab (h : MAt K H am tb rl hb rows last) (e : σ[i]? = some (some (.ref am))) (e2 : σ[j]? = some (some (.str (kname ko)))) : ED (O5 K) (tDGet (tDGet (tVar i) (tC (.str "tables"))) (tVar j)) σ H (tabD hb ko) := by
  have P := kps5 (K := K)
  have e1 : ED (O5 K) (tDGet (tVar i) (tC (.str "tables"))) σ H (tabsD hb) := (ep_dK (R := fun v H => Dv (O5 K) H (tabsD hb) v) (ep_pv e fun H2 s2 => ⟨am, _, _, rfl, s2 _ _ h.m, mkv1, fun H3 s3 => P.dv (Same.trans s2 s3) h.t⟩) ep_str).ed
  cases ko
  · exact ed_get (i := 0) e1 (ep_v e2) rfl rfl
  · exact ed_get (i := 1) e1 (ep_v e2) rfl rfl
/-- m['rows'] -/
theorem ep_rows (h : MAt K H am tb rl hb rows last) (e : σ[i]? = some (some (.ref am))) : EP (tDGet (tVar i) (tC (.str "rows"))) σ H fun v _ => v = .ref rl :=
  ep_dK (ep_pv e fun H2 s2 => ⟨am, _, _, rfl, s2 _ _ h.m, mkv2, fun H3 s3 => rfl⟩) ep_str
end
theorem pt_nv {X : Cx} {e : Expr} : PT X e (fun _ _ _ => False) := ⟨by intros; rename_i h; exact h.elim⟩
abbrev sTk : Stmt := tp 48
abbrev NTk : List Str := ["_law_m", "_law_kind", "_law_kept", "_law_tag_here", "_law_lone", "_law_value", "_law_lines", "_law_row_here"]
abbrev PTk : List Str := ["_law_m", "_law_kind", "_law_kept", "_law_tag_here"]
theorem scTk : FnScope NTk PTk (defScope sTk) := ⟨rfl, rfl, rfl, by decide +kernel, rfl, by decide +kernel, by decide +kernel⟩
def spTk (K : PySem.W.Frag) : Sp := fun vs H Q _ => ∃ (am tb rl : Addr) (hb ko : Bool) (rows : List Ro) (last : Int) (k : V), vs = [.ref am, .str (kname ko), k, .non] ∧ MAt K H am tb rl hb rows last ∧ rows.length ≤ 1000 ∧ (∀ r ∈ rows, r.kind = kname (koR r)) ∧ ∀ H', Same H H' → Q .non H'
section
variable {P : Program} {w : World} {K : PySem.W.Frag} {mg : Str → Option Value} {base : Heap}
theorem ok_tk {f : Addr} {fd : FuncData} (F : Fun K "_law_taken" "_law_taken" sTk f fd) : FnOk P w K mg base CX0 1 f fd PTk (spTk K) := by
  refine F.ok scTk (fun vs H Q E h => ?_) (fun cdv A outer s H vs Q E hr h => ?_)
  · obtain ⟨am, tb, rl, hb, ko, rows, last, k, rfl, _⟩ := h
    rfl
  · obtain ⟨am, tb, rl, hb, ko, rows, last, k, rfl, hm, rl1, okk, q⟩ := h
    refine ⟨_, pss_cons (ps_set (i := 4) scTk.nd rfl (Or.inr rfl) (pe_dget (hu_of hr) (pe_dget (hu_of hr) (pe_dget (hu_of hr) (pv 0) pe_str (fun _ _ => rfl)) (pv 1) (fun _ _ => rfl)) pe_str (fun _ _ => rfl)))
      (pss_cons (ps_set (i := 5) scTk.nd rfl (Or.inr rfl) (pe_ifExp (pt_cmp (pc_isN (pv 4))) pe_non (pe_dget (hu_of hr) (pv 2) (pv 4) (fun _ _ => rfl))))
      (pss_cons (ps_setLc (i := 6) (own := [("_law_row_here", 7)]) (g := gName 7) rfl scTk.nd rfl rfl (sw_true rfl rfl rfl (by decide +kernel)) (pi_list (pe_dget (hu_of hr) (pv 0) pe_str (fun _ _ => rfl))) (blkOk_by (N := NTk) (sc := defScope sTk) (by decide +kernel)) (fun _ _ _ _ _ => pg_name (i := 7) scTk.nd rfl (Or.inl rfl))
          (fun _ _ _ _ _ => pts_one (PW.pt (pw_and (pt_cmpR op_eq (pe_ix (show IxR _ (rIxL K) from ix_list) (pv 7) pe_int (fun _ _ => rfl)) (pv 1) (nomark _)) (pw_and (pt_cmpR (show OpR _ _ (rNeD K) from op_neD (hu64 hr)) (pe_ix (show IxR _ (rIxL K) from ix_list) (pv 7) pe_int (fun _ _ => rfl)) (pv 3) (nomark _)) (pw_and1 (pt_cmpR op_notN (pv 5) pe_non (nomark _))))))) (fun _ _ _ _ _ => pv 7))
      (pss_one (ps_ret (pe_ix ix_list (pe_op op_cat (pe_lc (own := [("_law_row_here", 7)]) (g := gName 7) rfl scTk.nd (pi_list (pv 6)) (blkOk_by (N := NTk) (sc := defScope sTk) (by decide +kernel)) (fun _ _ _ _ _ => pg_name (i := 7) scTk.nd rfl (Or.inl rfl))
          (fun _ _ _ _ _ => pts_one pt_nv) (fun _ _ _ _ _ => Ow.pe_nv)) (pe_lst (pa_cons pe_non pa_nil))) pe_int (fun _ _ => rfl)))))), ?_⟩
    have P := kps5 (K := K)
    refine (ed_get (i := 3) (ed_tab (ko := ko) hm rfl rfl) ep_str rfl rfl).seq fun v H1 s1 hv => ?_
    cases (show v = .non from hv)
    refine ⟨_, rfl, _, rfl, Vl.iteC rfl ?_⟩
    have hm1 := hm.same s1
    obtain ⟨vs, erl, mr⟩ := hm1.r
    have lvs := mr.len
    refine (ep_lcL (K := K) (xs := vs) (p := fun _ => false) (out := fun _ => .non) ((ep_rows hm1 rfl).imp fun v H2 s e => ⟨rl, e, SqL.of (s _ _ erl)⟩) (by omega) (fun u => rfl) (fun j x H3 ex s3 => ?_) (fun j x H3 ex s3 e => nomatch e)).seq fun v H2 s2 ⟨D, ev, eD⟩ => ?_
    · obtain ⟨r, l, t, d, er, rfl, hl, ht, _⟩ := (mr.same s3).get ex
      have ok := okk r (List.mem_of_getElem? er)
      have i1 : ∀ {σ : L2.St}, σ[7]? = some (some (.ref l)) → EP (tOp (rIxL K) (tVar 7) (tC (.int 1))) σ H3 fun v _ => v = .str r.kind := fun e => ep_ixL (i := 1) (xs := [.ref t, .str r.kind, .ref d]) (ep_pv e fun H4 s4 => ⟨l, rfl, s4 _ _ hl⟩) rfl
      have i0 : ∀ {σ : L2.St}, σ[7]? = some (some (.ref l)) → EP (tOp (rIxL K) (tVar 7) (tC (.int 0))) σ H3 fun v _ => v = .ref t := fun e => ep_ixL (i := 0) (xs := [.ref t, .str r.kind, .ref d]) (ep_pv e fun H4 s4 => ⟨l, rfl, s4 _ _ hl⟩) rfl
      have fin := et_andI (b := decide (V.str r.kind = V.str (kname ko))) (c := (true && false)) (et_t (eb_eq (i1 (σ := (wipe [some (.ref am), some (.str (kname ko)), some k, some .non, some .non, some .non, none, none] [7]).set 7 (some (.ref l))) rfl) (ep_v (i := 1) rfl) rfl)) fun _ => et_andI (b := true) (c := false) (tt := tTest (tOp (rNeD K) (tOp (rIxL K) (tVar 7) (tC (.int 0))) (tVar 3))) (fun H4 s4 Q4 k4 => i0 rfl H4 s4 _ fun u H5 s5 eu => by
        subst eu
        rw [ok] at ht
        refine ⟨_, rfl, tgP (koR r, r.n), .none, .tup (.inl (.inl (s5 _ _ (s4 _ _ ht)))) (.cons (.str _) (.cons (.str _) (.cons (.int _) .nil))), .non, tg_shaped _, by decide +kernel, _, rfl, ?_⟩
        exact k4 H5 s5) fun _ => (show ET (tTest (tOp (fun x y H Q => y = .non ∧ Q (.bl (!decide (x = .non))) H) (tVar 5) (tC .non))) _ H3 false from fun H4 s4 Q4 k4 => ⟨_, rfl, rfl, _, rfl, k4 H4 (Same.refl _)⟩)
      rw [Bool.and_false, Bool.and_false] at fin
      exact fin
    · subst ev
      rw [selV_none (fun j _ => rfl)] at eD
      refine EP.ret (ep_ixL (i := 0) (xs := [] ++ [.non]) (ep_cat (ep_lcL (K := K) (xs := []) (p := fun _ => false) (out := fun _ => .non) (ep_pv rfl fun H3 s3 => ⟨D, rfl, SqL.of (s3 _ _ eD)⟩) (by simp) (fun u => rfl) (fun j x H3 ex => by simp at ex) (fun j x H3 ex => by simp at ex)) ep_lstN (by simp)) rfl) fun u H3 s3 eu => ?_
      rw [eu]
      exact q H3 (Same.trans s1 (Same.trans s2 s3))
end
end Kd

set_option Elab.async false
set_option linter.all false
set_option maxRecDepth 100000
set_option maxHeartbeats 4000000
/-! _law_make -/
namespace Kd
open PySem PySem.Spec PyProof.Rows L2 Dq Vl Pf Ed ClX
def AlR (o : HO) : Prop := Alien Kmaps o ∧ ∀ t k d, o ≠ .lst [.ref t, .str k, .ref d]
theorem MRows.ch {K : PySem.W.Frag} {H H' : Hp} {S : List Addr} (k : Ch S H H') (al : ∀ a ∈ S, ∀ o, H a = some o → AlR o) : ∀ {rs : List Ro} {vs : List V}, (∀ r ∈ rs, OkR r) → MRows K H rs vs → MRows K H' rs vs
  | [], _, _, h => h
  | r :: rs, _, o, ⟨l, t, d, vs', e, h1, h2, h3, p⟩ => ⟨l, t, d, vs', e, k _ _ h1 fun m => (al _ m _ h1).2 _ _ _ rfl, k _ _ h2 fun m => (al _ m _ h2).1.1 _ rfl, Dv.ch k (fun a m o e => (al a m o e).1) _ _ (mapR_kpt (o r List.mem_cons_self)) h3, p.ch k al fun r' hr => o r' (List.mem_cons_of_mem _ hr)⟩
theorem MRows.app {K : PySem.W.Frag} {H : Hp} {r : Ro} {l t d : Addr} (h1 : H l = some (.lst [.ref t, .str r.kind, .ref d])) (h2 : H t = some (.tup [.str "#", .str r.kind, .int (r.n : Int)])) (h3 : Dv (O5 K) H (mapR r) (.ref d)) : ∀ {rs : List Ro} {vs : List V}, MRows K H rs vs → MRows K H (rs ++ [r]) (vs ++ [.ref l])
  | [], _, h => by cases h; exact ⟨l, t, d, [], rfl, h1, h2, h3, rfl⟩
  | r' :: rs, _, ⟨l', t', d', vs', e, g1, g2, g3, p⟩ => by subst e; exact ⟨l', t', d', _, rfl, g1, g2, g3, MRows.app h1 h2 h3 p⟩
theorem MRows.alR {K : PySem.W.Frag} {H : Hp} {rs : List Ro} {vs : List V} (h : MRows K H rs vs) : AlR (.lst vs) := ⟨alien_lst, fun t k d e => by
  cases e
  obtain ⟨r, l, t', d', _, e2, _⟩ := h.get (i := 1) rfl
  cases e2⟩
abbrev sLMk : Stmt := tp 50
abbrev NLMk : List Str := ["_law_m", "_law_kind", "_law_given", "_law_kept", "_law_name", "_law_sort", "_law_forces", "_law_reading", "_law_other", "_law_tag_here"]
abbrev PLMk : List Str := ["_law_m", "_law_kind", "_law_given"]
theorem scLMk : FnScope NLMk PLMk (defScope sLMk) := ⟨rfl, rfl, rfl, by decide +kernel, rfl, by decide +kernel, by decide +kernel⟩
def spLMk (K : PySem.W.Frag) : Sp := fun vs H Q _ => ∃ (am tb rl : Addr) (gv : V) (rows : List Ro) (last : Nat) (hb ko : Bool) (x y z : D5), vs = [.ref am, .str (kname ko), gv] ∧ MAt K H am tb rl hb rows (last : Int) ∧ Dv (O5 K) H (.map abc [x, y, z]) gv ∧
  okV x = true ∧ okV y = true ∧ okV z = true ∧ rows.length ≤ 1000 ∧ (∀ r ∈ rows, r.kind = kname (koR r)) ∧ (∀ r ∈ rows, OkR r) ∧
  ∀ (p b : Addr) H', Ch [am, rl] H H' → MAt K H' am tb rl hb (rows ++ [newR ko last x y z]) (nextL ko last : Nat) → H' b = some (.tup [.str "#", .str (kname ko), .int ((last + 1 : Nat) : Int)]) → H' p = some (.tup [.str "told", .ref b]) → Q (.ref p) H'
section
variable {P : Program} {w : World} {K : PySem.W.Frag} {mg : Str → Option Value} {base : Heap}
theorem ok_lmk {f fK fT fM : Addr} {fd fdK fdT fdM : FuncData} (F : Fun K "_law_make" "_law_make" sLMk f fd) (DK : Def P w K mg base 1 "_law_taken" fK fdK PTk (spTk K)) (DT : Def P w K mg base 1 "_law_tag" fT fdT NLT spLT) (DM : Def P w K mg base 2 "_law_marks" fM fdM ["_law_m", "_law_kind", "_law_kept"] (spLM K)) :
    FnOk P w K mg base CX0 3 f fd PLMk (spLMk K) := by
  refine F.ok scLMk (fun vs H Q E h => ?_) (fun cdv A outer s H vs Q E hr h => ?_)
  · obtain ⟨am, tb, rl, gv, rows, last, hb, ko, x, y, z, rfl, _⟩ := h
    rfl
  · obtain ⟨am, tb, rl, gv, rows, last, hb, ko, x, y, z, rfl, hm, hg, ox, oy, oz, rl1, okk, oks, q⟩ := h
    refine ⟨_, pss_cons (ps_set (i := 3) scLMk.nd rfl (Or.inl rfl) pe_dnewK)
      (pss_cons (ps_for PassesOwn.never rfl (pi_tup (pe_dget (hu_of hr) (pe_dget (hu_of hr) (pe_dget (hu_of hr) (pv 0) pe_str (fun _ _ => rfl)) (pv 1) (fun _ _ => rfl)) pe_str (fun _ _ => rfl)))
          (pg_tup rfl (pgs_cons (pg_name (i := 4) scLMk.nd rfl (Or.inl rfl)) (pgs_cons (pg_name (i := 5) scLMk.nd rfl (Or.inl rfl)) (pgs_cons (pg_name (i := 6) scLMk.nd rfl (Or.inl rfl)) (pgs_cons (pg_name (i := 7) scLMk.nd rfl (Or.inl rfl)) pgs_nil)))))
          (pss_cons (ps_dput (hu_of hr) (pv 3) (pv 4) (pe_dget1 (hu_of hr) (pv 2) (pv 4) ⟨rfl, rfl, rfl, rfl⟩) (by rfl))
          (pss_one (ps_if (PW.pt (pw_and (pt_cmp (pc_isN (pe_dget (hu_of hr) (pv 3) (pv 4) (fun _ _ => rfl)))) (pw_and1 (pt_cmpR op_eq (pv 5) pe_str (nomark _))))) Ow.pss_nv pss_nil))))
      (pss_cons (ps_set (i := 8) scLMk.nd rfl (Or.inl rfl) (pe_call DK.ok (hr.mono (by decide)) rfl DK.g DK.kp DK.b .nil pass0 (pa_cons (pv 0) (pa_cons (pv 1) (pa_cons (pv 3) (pa_cons pe_non pa_nil))))))
      (pss_cons (ps_if (pt_cmpR op_notN (pv 8) pe_non (nomark _)) Ow.pss_nv pss_nil)
      (pss_cons (ps_set (i := 9) scLMk.nd rfl (Or.inl rfl) (pe_call DT.ok (hr.mono (by decide)) rfl DT.g DT.kp DT.b .nil pass0 (pa_cons (pv 0) (pa_cons (pv 1) pa_nil))))
      (pss_cons (ps_dput (hu_of hr) (pv 3) pe_str (pv 9) (by rfl))
      (pss_cons (ps_expr (pe_call DM.ok (hr.mono (by decide)) rfl DM.g DM.kp DM.b .nil pass0 (pa_cons (pv 0) (pa_cons (pv 1) (pa_cons (pv 3) pa_nil)))))
      (pss_cons (ps_expr (pe_bm PySem.F.plainAttrs_list PySem.F.slot_list_append PySem.F.type_list_append mt_append (pe_dget (hu_of hr) (pv 0) pe_str (fun _ _ => rfl)) (pa_cons (pe_lst (pa_cons (pv 9) (pa_cons (pv 1) (pa_cons (pv 3) pa_nil)))) pa_nil)))
      (pss_one (ps_ret (pe_tup (pa_cons pe_str (pa_cons (pv 9) pa_nil)))))))))))), ?_⟩
    have P := kps5 (K := K)
    intro D nD
    have sD : Same H (upd H D (.dK [])) := sm_upd nD
    have eD0 : (upd H D (.dK [])) D = some (.dK []) := upd_same
    generalize upd H D (.dK []) = H0 at sD eD0
    obtain ⟨g, gk, rfl, hgk, gnd, gks, gl⟩ := hg
    have gnd' : (gk.map (·.1)).Nodup := by rw [gks]; exact List.pairwise_map.mpr (List.Pairwise.imp (fun n e => n (Sum.inr.inj e)) gnd)
    have oxyz : ∀ d ∈ [x, y, z], okV d = true := by
      intro d hd
      simp only [List.mem_cons, List.not_mem_nil, or_false] at hd
      rcases hd with rfl | rfl | rfl <;> assumption
    have kxyz : ∀ i, kptL [["x"]] ([x, y, z].take i) = true := fun i => kptL_all fun d hd => (okV_parts (oxyz d (List.mem_of_mem_take hd))).2.2.1
    have nox : ∀ i, ((abc.take i).map (Sum.inr : Str → Key)) ≠ ([("x" : Str)]).map Sum.inr := by
      intro i e
      match i, e with
      | 0, e => cases e
      | i + 1, e =>
        simp only [List.take_succ_cons, List.map_cons, List.map_nil, List.cons.injEq, Sum.inr.injEq] at e
        exact absurd e.1 (by decide +kernel)
    have tE : ED (O5 K) (tDGet (tDGet (tDGet (tVar 0) (tC (.str "tables"))) (tVar 1)) (tC (.str "given"))) [some (.ref am), some (.str (kname ko)), some (.ref g), some (.ref D), none, none, none, none, none, none] H0 (.tup [rwG "a" false, rwG "b" true, rwG "c" false]) := ed_get (i := 1) (ed_tab (ko := ko) (hm.same sD) rfl rfl) ep_str rfl rfl
    refine for_tupD (S := [D]) tE (by simp [kpt, kptL]) (fun a m => by rw [List.mem_singleton.mp m]; exact ⟨_, eD0, alien_dK0⟩) fun H1 s1 => ⟨fun i σ' H' => (∃ w4 w5 w6 w7, σ' = [some (.ref am), some (.str (kname ko)), some (.ref g), some (.ref D), w4, w5, w6, w7, none, none]) ∧ Ch [D] H1 H' ∧ ∃ kv', H' D = some (.dK kv') ∧ kv'.map (·.1) = (abc.take i).map Sum.inr ∧ DvL (O5 K) H' ([x, y, z].take i) (kv'.map (·.2)),
      ⟨⟨_, _, _, _, rfl⟩, Ch.refl _ _, [], s1 _ _ eD0, rfl, rfl⟩, fun i σ' H' _ p => p.2.1, fun i d u σ' H' e p hd => ?_, fun σ' H' p => ?_⟩
    · obtain ⟨⟨w4, w5, w6, w7, rfl⟩, c2, kv', eD, ek, ev⟩ := p
      obtain ⟨s, fb, es, rfl, i3⟩ := gvn_at e
      have c0 : Same H H' := fun c o e => c2 _ _ (s1 _ _ (sD _ _ e)) (by simp; intro q; rw [q, nD] at e; cases e)
      obtain ⟨xd, exd⟩ : ∃ xd, ([x, y, z] : List D5)[i]? = some xd := ⟨[x, y, z][i], List.getElem?_eq_getElem (by simpa using i3)⟩
      have oxd := oxyz xd (List.mem_of_getElem? exd)
      obtain ⟨gu, egu, hgu⟩ := at_dv gl exd
      have eg : gk[i]? = some (.inr s, gu) := by
        have a1 := congrArg (fun m => m[i]?) gks
        simp only [List.getElem?_map, es, Option.map_some] at a1
        rw [List.getElem?_map] at egu
        cases ec : gk[i]? with
        | none => rw [ec] at egu; cases egu
        | some p =>
          rw [ec] at a1 egu
          simp only [Option.map_some, Option.some.injEq] at a1 egu
          rw [← a1, ← egu]
      have kl : kv'.length ≤ 3 := by
        have := congrArg List.length ek
        rw [List.length_map, List.length_map, List.length_take] at this
        simp at this
        omega
      have nz : valV kv' (Sum.inr s : Key) = none := by
        unfold valV
        rw [Option.map_eq_none_iff, List.find?_eq_none]
        intro p hp
        simp only [decide_eq_true_eq]
        intro q2
        have m1 : (Sum.inr s : Key) ∈ (abc.take i).map Sum.inr := by rw [← ek, ← q2]; exact List.mem_map_of_mem (f := (·.1)) hp
        obtain ⟨y2, hy, e7⟩ := List.mem_map.mp m1
        cases e7
        match i, es, hy with
        | 0, _, hy => cases hy
        | 1, es, hy => cases es; revert hy; decide +kernel
        | 2, es, hy => cases es; revert hy; decide +kernel
        | i + 3, es, hy => cases es
      obtain ⟨ua, us, rfl, ha, u1, r1, rfl, h1, u2, r2, rfl, h2, u3, r3, rfl, h3, u4, r4, rfl, h4, e5⟩ := hd
      cases (show r4 = [] from e5)
      cases (show u1 = .str s from h1)
      cases (show u2 = .str "open" from h2)
      have cD : Ch [D] H' (upd H' D (.dK (kv' ++ [(Sum.inr s, gu)]))) := Ch.upd (by simp)
      have al : ∀ b ∈ [D], ∀ o, H' b = some o → Alien [["x"]] o := fun b hb o e => by
        rw [List.mem_singleton.mp hb, eD] at e
        cases e
        exact alien_dk fun ks' hk' => by rw [ek, List.mem_singleton.mp hk']; exact nox i
      have nxt : Ch [D] H1 (upd H' D (.dK (kv' ++ [(Sum.inr s, gu)]))) ∧ ∃ kv'', (upd H' D (.dK (kv' ++ [(Sum.inr s, gu)]))) D = some (.dK kv'') ∧ kv''.map (·.1) = (abc.take (i + 1)).map Sum.inr ∧ DvL (O5 K) (upd H' D (.dK (kv' ++ [(Sum.inr s, gu)]))) ([x, y, z].take (i + 1)) (kv''.map (·.2)) := by
        refine ⟨Ch.trans c2 cD, _, upd_same, ?_, ?_⟩
        · rw [List.map_append, ek, List.take_succ, es, List.map_append]
          rfl
        · rw [List.map_append, List.take_succ, exd]
          exact DvL.snoc (Dv.ch cD al _ _ (okV_parts oxd).2.2.1 (P.dv c0 hgu)) (DvL.ch cD al _ _ (kxyz i) ev)
      refine ⟨ua, _, rfl, ha, rfl, _, _, rfl, _, _, rfl, _, _, rfl, _, _, rfl, rfl, ?_⟩
      refine ⟨_, rfl, g, rfl, .inl ⟨gk, .inl (c0 _ _ hgk)⟩, _, rfl, some gu, .inl ⟨gk, .inr s, .inl (c0 _ _ hgk), rfl, (find_at gnd' eg).symm⟩, _, rfl, _, rfl, D, _, rfl, DPut.k (k := .inr s) eD (Nat.lt_of_le_of_lt kl (by decide)), ?_⟩
      rw [show (some gu).getD V.non = gu from rfl, putK_new _ nz]
      have g9 : DGet (upd H' D (.dK (kv' ++ [(Sum.inr s, gu)]))) D (.str s) (some gu) := .inl ⟨_, .inr s, .inl upd_same, rfl, by rw [← putK_new _ nz, valV_put, if_pos rfl]⟩
      refine ⟨_, rfl, _, rfl, D, gu, rfl, g9, ?_⟩
      refine ⟨_, rfl, ?_⟩
      rcases Bool.eq_false_or_eq_true (decide (gu = V.non)) with e | e
      · rw [e]
        exact Vl.iteC rfl ⟨_, rfl, rfl, _, rfl, Vl.iteN (c := decide (V.str "open" = V.str "filled")) (by decide +kernel) ⟨⟨_, _, _, _, rfl⟩, nxt.1, nxt.2⟩⟩
      · rw [e]
        exact Vl.iteN rfl (Vl.iteN rfl ⟨⟨_, _, _, _, rfl⟩, nxt.1, nxt.2⟩)
    · obtain ⟨⟨w4, w5, w6, w7, rfl⟩, c2, kv, eD, ek, ev⟩ := p
      have c0 : Same H H' := fun c o e => c2 _ _ (s1 _ _ (sD _ _ e)) (by simp; intro q; rw [q, nD] at e; cases e)
      have hm2 := hm.same c0
      have kl : kv.length = 3 := by
        have := congrArg List.length ek
        rwa [List.length_map, List.length_map] at this
      have nDa : D ≠ am := fun e => by
        have z := hm2.m
        rw [← e, eD] at z
        injection z with z
        injection z with z
        rw [z] at ek
        have h := congrArg List.head? ek
        have h2 : (some (Sum.inr ("tables" : Str)) : Option Key) = some (Sum.inr ("a" : Str)) := h
        exact absurd (Sum.inr.inj (Option.some.inj h2)) (by decide +kernel)
      refine ⟨_, rfl, _, rfl, _, rfl, am, tb, rl, hb, ko, rows, last, .ref D, rfl, hm2, rl1, okk, fun H3 s3 => ?_⟩
      refine ⟨_, rfl, rfl, _, rfl, Vl.iteN rfl ?_⟩
      refine ⟨_, rfl, _, rfl, am, tb, rl, kname ko, last, rfl, (hm2.same s3).m, fun b H4 c4 nb e1 e2 => ?_⟩
      have eD4 := c4 _ _ (s3 _ _ eD) (by simpa using nDa)
      have nbD : b ≠ D := fun e => by rw [e, s3 _ _ eD] at nb; cases nb
      refine ⟨_, rfl, _, rfl, D, _, rfl, DPut.k (k := .inr "id") eD4 (by rw [kl]; decide), ?_⟩
      have nid : valV kv (Sum.inr "id" : Key) = none := by
        unfold valV
        rw [Option.map_eq_none_iff, List.find?_eq_none]
        intro p hp
        simp only [decide_eq_true_eq]
        intro q2
        have m1 : (Sum.inr "id" : Key) ∈ (abc.take 3).map Sum.inr := by
          have : (Sum.inr "id" : Key) ∈ kv.map (·.1) := by rw [← q2]; exact List.mem_map_of_mem (f := (·.1)) hp
          rw [ek] at this
          exact this
        obtain ⟨y2, hy, e7⟩ := List.mem_map.mp m1
        cases e7
        revert hy
        decide +kernel
      rw [putK_new _ nid]
      have c5 : Ch [am, D] H' (upd H4 D (.dK (kv ++ [(.inr "id", .ref b)]))) := Ch.trans (Ch.same s3) (Ch.trans (Ch.mono c4 (by simp)) (Ch.upd (by simp)))
      have e15 : (upd H4 D (.dK (kv ++ [(.inr "id", .ref b)]))) am = some (.dK (mkv tb rl (last + 1))) := (upd_ne (Ne.symm nDa)).trans e1
      have e25 : (upd H4 D (.dK (kv ++ [(.inr "id", .ref b)]))) b = some (.tup [.str "#", .str (kname ko), .int (last + 1)]) := (upd_ne nbD).trans e2
      have eD5 : (upd H4 D (.dK (kv ++ [(.inr "id", .ref b)]))) D = some (.dK (kv ++ [(.inr "id", .ref b)])) := upd_same
      generalize upd H4 D (.dK (kv ++ [(.inr "id", .ref b)])) = H5 at c5 e15 e25 eD5
      have al5 : ∀ Ks : List (List Str), (∀ ks ∈ Ks, ks.head? ≠ some "tables" ∧ ks.head? ≠ some "a") → ∀ a ∈ [am, D], ∀ o, H' a = some o → Alien Ks o := fun Ks hK a m o e => by
        have key : ∀ {kvs : List (Key × V)} {k : Str}, (kvs.map (·.1)).head? = some (.inr k) → (∀ ks ∈ Ks, ks.head? ≠ some k) → Alien Ks (.dK kvs) := fun h1 h2 => alien_dk fun ks hk e => h2 ks hk (by
          rw [e, List.head?_map] at h1
          cases q : ks.head? with
          | none => rw [q] at h1; cases h1
          | some z => rw [q] at h1; cases h1; rfl)
        simp only [List.mem_cons, List.not_mem_nil, or_false] at m
        rcases m with rfl | rfl
        · rw [hm2.m] at e; cases e
          exact key (k := "tables") rfl fun ks hk => (hK ks hk).1
        · rw [eD] at e; cases e
          exact key (k := "a") (by rw [ek]; rfl) fun ks hk => (hK ks hk).2
      have ktb : kpt [["k", "other"], tabK] (tabsD hb) = true := by
        have d1 : decide (tabK ∈ ([["k", "other"], tabK] : List (List Str))) = true := by decide +kernel
        have d2 : decide ((["k", "other"] : List Str) ∈ ([["k", "other"], tabK] : List (List Str))) = true := by decide +kernel
        cases hb <;> simp only [tabsD, tabD, kpt, kptL, d1, d2, gvn, mdn, hln, hldN, rwG, rId, rMk, Bool.and_true] <;> rfl
      have htb5 : Dv (O5 K) H5 (tabsD hb) (.ref tb) := Dv.ch c5 (al5 [["k", "other"], tabK] (by decide +kernel)) _ _ (by
        have d1 : decide (tabK ∈ ([["k", "other"], tabK] : List (List Str))) = true := by decide +kernel
        have d2 : decide ((["k", "other"] : List Str) ∈ ([["k", "other"], tabK] : List (List Str))) = true := by decide +kernel
        cases hb <;> simp only [tabsD, tabD, kpt, kptL, d1, d2, gvn, mdn, hln, hldN, rwG, rId, rMk, Bool.and_true] <;> rfl) hm2.t
      obtain ⟨vs, erl0, mr0⟩ := hm.r
      have erl := c0 _ _ erl0
      have rest : ∀ (r : Ro) (nl : Int) (H7 : Hp), Ch [am, D] H' H7 → H7 am = some (.dK (mkv tb rl nl)) → H7 b = some (.tup [.str "#", .str r.kind, .int (r.n : Int)]) → Dv (O5 K) H7 (mapR r) (.ref D) → r.kind = kname ko → OkR r → Ch [am] H H7 ∧ ∀ l, H7 l = none → MAt K (upd (upd H7 l (.lst [.ref b, .str (kname ko), .ref D])) rl (.lst (vs ++ [.ref l]))) am tb rl hb (rows ++ [r]) nl := fun r nl H7 c7 g1 g2 g3 ekd okr => by
        have nrD : rl ≠ D := fun e => by rw [e, nD] at erl0; cases erl0
        have nra : rl ≠ am := fun e => by rw [e, hm.m] at erl0; cases erl0
        have mb : ∀ c, c ≠ am → c ≠ D → c ∉ [am, D] := fun c h1 h2 m => by
          simp only [List.mem_cons, List.not_mem_nil, or_false] at m
          rcases m with rfl | rfl
          · exact h1 rfl
          · exact h2 rfl
        have erl7 := c7 _ _ erl (mb rl nra nrD)
        have cH : Ch [am] H H7 := fun c o e n => c7 _ _ (c0 _ _ e) (mb c (by simpa using n) fun q => by rw [q, nD] at e; cases e)
        refine ⟨cH, fun l nl7 => ?_⟩
        have nlr : l ≠ rl := fun e => by rw [e, erl7] at nl7; cases nl7
        have nla : am ≠ l := fun e => by rw [← e, g1] at nl7; cases nl7
        have nlb : b ≠ l := fun e => by rw [← e, g2] at nl7; cases nl7
        have nbr : b ≠ rl := fun e => by rw [e, erl7] at g2; cases g2
        have c79 : Ch [rl] H7 (upd (upd H7 l (.lst [.ref b, .str (kname ko), .ref D])) rl (.lst (vs ++ [.ref l]))) := Ch.trans (Ch.same (sm_upd nl7)) (Ch.upd (by simp))
        have el9 : (upd (upd H7 l (.lst [.ref b, .str (kname ko), .ref D])) rl (.lst (vs ++ [.ref l]))) l = some (.lst [.ref b, .str (kname ko), .ref D]) := (upd_ne nlr).trans upd_same
        have er9 : (upd (upd H7 l (.lst [.ref b, .str (kname ko), .ref D])) rl (.lst (vs ++ [.ref l]))) rl = some (.lst (vs ++ [.ref l])) := upd_same
        generalize upd (upd H7 l (.lst [.ref b, .str (kname ko), .ref D])) rl (.lst (vs ++ [.ref l])) = H9 at c79 el9 er9
        have c9 : Ch [am, D, rl] H' H9 := Ch.trans (Ch.mono c7 (by simp)) (Ch.mono c79 (by simp))
        have cH9 : Ch [am, rl] H H9 := Ch.trans (Ch.mono cH (by simp)) (Ch.mono c79 (by simp))
        refine ⟨c79 _ _ g1 (by simpa using Ne.symm nra), Dv.ch (Ks := [["k", "other"], tabK]) c9 (fun a m o e => ?_) _ _ ktb hm2.t, _, er9, MRows.app (r := r) (t := b) (d := D) (by rw [ekd]; exact el9) (c79 _ _ g2 (by simpa using nbr)) (Dv.ch c79 (fun a m o e => ?_) _ _ (mapR_kpt okr) g3) (mr0.ch cH9 (fun a m o e => ?_) oks)⟩
        · simp only [List.mem_cons, List.not_mem_nil, or_false] at m
          rcases m with rfl | rfl | rfl
          · exact al5 _ (by decide +kernel) _ (by simp) _ e
          · exact al5 _ (by decide +kernel) _ (by simp) _ e
          · rw [erl] at e; cases e; exact alien_lst
        · rw [List.mem_singleton.mp m, erl7] at e; cases e; exact alien_lst
        · simp only [List.mem_cons, List.not_mem_nil, or_false] at m
          rcases m with rfl | rfl
          · rw [hm.m] at e; cases e
            exact ⟨alien_dk fun ks hk q => by
              have h := congrArg List.length q
              have h2 : ∀ ks ∈ Kmaps, ks.length ≠ 3 := by decide +kernel
              simp at h
              exact h2 ks hk h.symm, fun t k d z => nomatch z⟩
          · rw [erl0] at e; cases e; exact mr0.alR
      refine ⟨_, rfl, _, rfl, _, rfl, am, tb, rl, D, last + 1, hb, ko, _, rfl, e15, htb5, eD5, by rw [List.map_append, ek]; rfl, fun eko H6 s6 => ?_, fun eko b2 H6 c6 f1 f2 f3 => ?_⟩
      · subst eko
        have okr : OkR (newR false last x y z) := ⟨ox, oy, oz, (show nmS (kname false) = true by decide +kernel), Nat.le_add_left _ _⟩
        have c7 : Ch [am, D] H' H6 := Ch.trans c5 (Ch.same s6)
        have g1 := s6 _ _ e15
        have g2 : H6 b = some (.tup [.str "#", .str (kname false), .int ((last + 1 : Nat) : Int)]) := s6 _ _ e25
        have dv6 : DvL (O5 K) H6 [x, y, z] (kv.map (·.2)) := DvL.ch c7 (al5 [["x"]] (by decide +kernel)) _ _ (kxyz 3) ev
        have g3 : Dv (O5 K) H6 (mapR (newR false last x y z)) (.ref D) := by
          refine ⟨D, _, rfl, s6 _ _ eD5, by decide +kernel, ?_, ?_⟩
          · rw [List.map_append, ek]; rfl
          · rw [List.map_append]
            exact DvL.app (l := [x, y, z]) dv6 ⟨_, _, rfl, ⟨b, _, rfl, .inl (.inl g2), _, _, rfl, rfl, _, _, rfl, rfl, _, _, rfl, rfl, rfl⟩, rfl⟩
        obtain ⟨cH, fm⟩ := rest (newR false last x y z) (last + 1) H6 c7 g1 g2 g3 rfl okr
        have nrD : rl ≠ D := fun e => by rw [e, nD] at erl0; cases erl0
        have nra : rl ≠ am := fun e => by rw [e, hm.m] at erl0; cases erl0
        have erl7 := cH _ _ erl0 (by simpa using nra)
        refine ⟨_, rfl, am, .ref rl, rfl, .inl ⟨_, .inr "rows", .inl g1, rfl, mkv2.symm⟩, .inl ⟨rfl, _, SqL.of erl7⟩, _, rfl, _, rfl, _, rfl, by show 3 ≤ sizeLine; decide, fun l nl7 => ?_⟩
        have nlr : rl ≠ l := fun e => by rw [← e, erl7] at nl7; cases nl7
        have M9 := fm l nl7
        refine ⟨rl, vs, .ref l, rfl, rfl, (upd_ne nlr).trans erl7, Nat.lt_of_le_of_lt (show vs.length ≤ 1000 by rw [mr0.len]; exact rl1) (by decide), _, rfl, by show 2 ≤ sizeLine; decide, fun p np => ?_⟩
        have c9 : Ch [am, rl] H (upd (upd H6 l (.lst [.ref b, .str (kname false), .ref D])) rl (.lst (vs ++ [.ref l]))) := Ch.trans (Ch.mono cH (by simp)) (Ch.trans (Ch.same (sm_upd nl7)) (Ch.upd (by simp)))
        have nbl : b ≠ l := fun e => by rw [← e, g2] at nl7; cases nl7
        have nbr : b ≠ rl := fun e => by rw [e, erl7] at g2; cases g2
        have b9 : (upd (upd H6 l (.lst [.ref b, .str (kname false), .ref D])) rl (.lst (vs ++ [.ref l]))) b = some (.tup [.str "#", .str (kname false), .int ((last + 1 : Nat) : Int)]) := (upd_ne nbr).trans ((upd_ne nbl).trans g2)
        exact q p b _ (Ch.trans c9 (Ch.same (sm_upd np))) (M9.same (sm_upd np)) (sm_upd np _ _ b9) upd_same
      · subst eko
        have okr : OkR (newR true last x y z) := ⟨ox, oy, oz, (show nmS (kname true) = true by decide +kernel), Nat.le_add_left _ _⟩
        have nba : b ≠ am := fun e => by rw [e, e15] at e25; cases e25
        have c7 : Ch [am, D] H' H6 := Ch.trans c5 c6
        have g1 := f1
        have g2 : H6 b = some (.tup [.str "#", .str (kname true), .int ((last + 1 : Nat) : Int)]) := c6 _ _ e25 (by simp only [List.mem_cons, List.not_mem_nil, or_false, not_or]; exact ⟨nba, nbD⟩)
        have dv6 : DvL (O5 K) H6 [x, y, z] (kv.map (·.2)) := DvL.ch c7 (al5 [["x"]] (by decide +kernel)) _ _ (kxyz 3) ev
        have g3 : Dv (O5 K) H6 (mapR (newR true last x y z)) (.ref D) := by
          refine ⟨D, _, rfl, f3, by decide +kernel, ?_, ?_⟩
          · rw [List.map_append, List.map_append, ek]; rfl
          · rw [List.map_append, List.map_append]
            refine DvL.app (l := [x, y, z, tagOf (kname true) (last + 1)]) (DvL.app (l := [x, y, z]) dv6 ⟨_, _, rfl, ⟨b, _, rfl, .inl (.inl g2), _, _, rfl, rfl, _, _, rfl, rfl, _, _, rfl, rfl, rfl⟩, rfl⟩) ⟨_, _, rfl, ⟨b2, _, rfl, .inl (.inl f2), _, _, rfl, rfl, _, _, rfl, rfl, _, _, rfl, ?_, rfl⟩, rfl⟩
            exact congrArg V.int (by omega)
        obtain ⟨cH, fm⟩ := rest (newR true last x y z) ((last : Int) + 1 + 1) H6 c7 g1 g2 g3 rfl okr
        have nrD : rl ≠ D := fun e => by rw [e, nD] at erl0; cases erl0
        have nra : rl ≠ am := fun e => by rw [e, hm.m] at erl0; cases erl0
        have erl7 := cH _ _ erl0 (by simpa using nra)
        refine ⟨_, rfl, am, .ref rl, rfl, .inl ⟨_, .inr "rows", .inl g1, rfl, mkv2.symm⟩, .inl ⟨rfl, _, SqL.of erl7⟩, _, rfl, _, rfl, _, rfl, by show 3 ≤ sizeLine; decide, fun l nl7 => ?_⟩
        have nlr : rl ≠ l := fun e => by rw [← e, erl7] at nl7; cases nl7
        have M9 := fm l nl7
        refine ⟨rl, vs, .ref l, rfl, rfl, (upd_ne nlr).trans erl7, Nat.lt_of_le_of_lt (show vs.length ≤ 1000 by rw [mr0.len]; exact rl1) (by decide), _, rfl, by show 2 ≤ sizeLine; decide, fun p np => ?_⟩
        have c9 : Ch [am, rl] H (upd (upd H6 l (.lst [.ref b, .str (kname true), .ref D])) rl (.lst (vs ++ [.ref l]))) := Ch.trans (Ch.mono cH (by simp)) (Ch.trans (Ch.same (sm_upd nl7)) (Ch.upd (by simp)))
        have nbl : b ≠ l := fun e => by rw [← e, g2] at nl7; cases nl7
        have nbr : b ≠ rl := fun e => by rw [e, erl7] at g2; cases g2
        have b9 : (upd (upd H6 l (.lst [.ref b, .str (kname true), .ref D])) rl (.lst (vs ++ [.ref l]))) b = some (.tup [.str "#", .str (kname true), .int ((last + 1 : Nat) : Int)]) := (upd_ne nbr).trans ((upd_ne nbl).trans g2)
        exact q p b _ (Ch.trans c9 (Ch.same (sm_upd np))) (M9.same (sm_upd np)) (sm_upd np _ _ b9) upd_same
end
end Kd

set_option Elab.async false
set_option linter.all false
set_option maxRecDepth 100000
set_option maxHeartbeats 4000000
/-! _law_model; rows of drawn values -/
namespace Kd
open PySem PySem.Spec PyProof.Rows L2 Dq Vl Pf Ed ClX
abbrev sMo : Stmt := tp 44
theorem scMo : FnScope ["_law_tables_here"] ["_law_tables_here"] (defScope sMo) := ⟨rfl, rfl, rfl, by decide +kernel, rfl, by decide +kernel, by decide +kernel⟩
def spMo : Sp := fun vs H Q _ => ∃ (tb : Addr), vs = [.ref tb] ∧ ∀ (am rl : Addr) H', H am = none → H rl = none → Same H H' → H' am = some (.dK (mkv tb rl 0)) → H' rl = some (.lst []) → Q (.ref am) H'
section
variable {P : Program} {w : World} {K : PySem.W.Frag} {mg : Str → Option Value} {base : Heap}
theorem ok_mo {f : Addr} {fd : FuncData} (F : Fun K "_law_model" "_law_model" sMo f fd) : FnOk P w K mg base CX0 1 f fd ["_law_tables_here"] spMo := by
  refine F.ok scMo (fun vs H Q E h => ?_) (fun cdv A outer s H vs Q E hr h => ?_)
  · obtain ⟨tb, rfl, _⟩ := h
    rfl
  · obtain ⟨tb, rfl, q⟩ := h
    refine ⟨_, pss_one (ps_ret (pe_disp (pps_cons pe_str (pv 0) (pps_cons pe_str (pe_lst pa_nil) (pps_cons pe_str pe_int pps_nil))) (by rfl) (by rfl) (fun z => by cases z) (by decide))), ?_⟩
    intro am na
    refine ⟨_, rfl, by show 0 ≤ sizeLine; decide, fun rl nr => ?_⟩
    have nar : am ≠ rl := fun e => by rw [← e, upd_same] at nr; cases nr
    refine ⟨(upd_ne nar).trans upd_same, mkv tb rl 0, rfl, by show 3 ≤ 15; decide, ?_⟩
    have em : mergeK [] (mkv tb rl 0) = mkv tb rl 0 := by
      have h1 : ¬ (("tables" : Str) = "rows") := by decide +kernel
      have h2 : ¬ (("tables" : Str) = "told") := by decide +kernel
      have h3 : ¬ (("rows" : Str) = "told") := by decide +kernel
      simp [mergeK, putK, h1, h2, h3]
    rw [em]
    refine q am rl _ na (by rwa [upd_ne (Ne.symm nar)] at nr) (fun c o e => ?_) upd_same ((upd_ne (Ne.symm nar)).trans upd_same)
    have nc : c ≠ am := ne_of_none e na
    rw [upd_ne nc, upd_ne (fun z => by rw [← z, upd_ne nc, e] at nr; cases nr), upd_ne nc]
    exact e
end
end Kd

set_option Elab.async false
set_option linter.all false
set_option maxRecDepth 100000
set_option maxHeartbeats 4000000
/-! rows of drawn values -/
namespace Kd
open PySem PySem.Spec PyProof.Rows L2 Dq Vl Pf Ed ClX
theorem kname_sh (a : Bool) : shD (.str (kname a) : D5) = true := by cases a <;> decide +kernel
theorem vD_ti (v : Vn) : okTI (vD v) = true := by
  cases v <;> simp [vD, okTI, okTag, tgD, tagOf, kname_sh]
theorem vD_lay (v : Vn) : lay 4 (vD v) = true := by
  have e1 : below (["x"] : List Str) = [] := by decide +kernel
  have e2 : okKs (["x"] : List Str) = true := by decide +kernel
  cases v <;> simp [vD, lay, tgD, tagOf, e1, e2, kpt, kptL]
theorem vD_kpt (v : Vn) : kpt [["x"]] (vD v) = true := by
  cases v <;> simp [vD, tgD, tagOf, kpt, kptL]
theorem vD_nol (v : Vn) : nol (vD v) = true := lay_nol 4 _ (vD_lay v)
theorem vD_lyk (v : Vn) : lyk 4 (vD v) = true := by
  have e1 : sortedS ([("x" : Str)]) = true := by decide +kernel
  cases v <;> simp [vD, tgD, tagOf, lyk, nolL, nol, e1]
theorem vD_dp (v : Vn) : dp (keyD (vD v)) ≤ 8 := by
  cases v <;> simp [vD, tgD, tagOf, keyD, keyL, keyM, dp, dpL]
theorem vD_okV (v : Vn) : okV (vD v) = true := by
  simp only [okV, vD_ti, vD_lay, vD_kpt, vD_nol, vD_lyk, Bool.and_eq_true, decide_eq_true_eq, true_and]
  exact vD_dp v
end Kd

set_option Elab.async false
set_option linter.all false
set_option maxRecDepth 100000
set_option maxHeartbeats 4000000
/-! rows of drawn values hold Tags alone -/
namespace Kd
open PySem PySem.Spec PyProof.Rows L2 Dq Vl Pf Ed ClX
theorem kname_o (a : Bool) : decide (kname a = "other") = a := by cases a <;> decide +kernel
theorem unTg_tgD (p : Tg) : unTg (tgD p) = some p := by
  obtain ⟨a, n⟩ := p
  show some (decide (kname a = "other"), (n : Int).toNat) = _
  rw [kname_o, Int.toNat_natCast]
theorem unTg_map : ∀ l : List Tg, (l.map tgD).filterMap unTg = l
  | [] => rfl
  | p :: l => by rw [List.map_cons, List.filterMap_cons, unTg_tgD, unTg_map l]
theorem koR_new {ko : Bool} {last : Nat} {x y z : D5} : koR (newR ko last x y z) = ko := kname_o ko
theorem held_new {hb ko : Bool} {last : Nat} {a b c : Vn} (ha : vOk a) (hb' : vOk b) : heldR hb ko (newR ko last (vD a) (vD b) (vD c)) = ((hldN hb ko).flatMap fun s : Str => vT (if s = ("a" : Str) then a else b)).map tgD := by
  unfold heldR
  rw [List.map_flatMap]
  congr 1
  funext s
  by_cases h : s = ("a" : Str)
  · rw [if_pos h, show valR (newR ko last (vD a) (vD b) (vD c)) s = vD a from if_pos h, vD_tags ha]
  · rw [if_neg h, show valR (newR ko last (vD a) (vD b) (vD c)) s = vD b from if_neg h, vD_tags hb']
theorem okR_new {ko : Bool} {last : Nat} {a b c : Vn} : OkR (newR ko last (vD a) (vD b) (vD c)) := ⟨vD_okV a, vD_okV b, vD_okV c, (show nmS (kname ko) = true by cases ko <;> decide +kernel), Nat.le_add_left _ _⟩
theorem okW_new {hb ko : Bool} {last : Nat} {a b c : Vn} (ha : vOk a) (hb' : vOk b) : OkW hb (newR ko last (vD a) (vD b) (vD c)) where
  ok := okR_new
  kd := by rw [koR_new]; rfl
  tg := by
    unfold tgsR
    rw [koR_new, held_new ha hb', unTg_map]
end Kd

set_option Elab.async false
set_option linter.all false
set_option maxRecDepth 100000
set_option maxHeartbeats 4000000
/-! {t: v for ..} where the keys are tuples -/
namespace Td
open PySem PySem.Spec PyProof.Rows L2
/-- the dict D takes z at the tuple y, then N -/
def PutT (D : Addr) (y z : V) (H : Hp) (N : Hp → Prop) : Prop :=
  ∃ (kvs : List (List Key × V)) (k : List Key) (b : Addr), y = .ref b ∧ H D = some (.dT kvs) ∧ H b = some (.tup (k.map kV)) ∧ kvs.length < sizeLine ∧ N (upd H D (.dT (putK kvs k z)))
section
variable {X : Cx} {pins : List (Addr × Obj)} {σ : L2.St} {H : Hp} {s : Shared}
theorem put_T {E : Value → Shared → Prop} {D : Addr} {y z : V} {u r : Value} {N : Hp → Prop} {Q : Unit → Shared → Prop} (hu : X.A.units < cLine) (I : Inv X pins σ H s) (ry : RelV y u) (rz : RelV z r) (p : PutT D y z H N)
    (h : ∀ s' H', Inv X pins σ H' s' → N H' → Q () s') : wpAny (model X.prog X.w) X.A (dictSet D u r) Q E s := by
  obtain ⟨kvs, k, b, ey, hD, hb, hl, n⟩ := p
  subst ey
  cases (show u = Value.ref b from ry)
  obtain ⟨zs, nd, xs, rel, dd⟩ := dt_of I.hok hD
  have hx : xs.length ≤ sizeLine := by rw [← Paired.length rel]; exact zs
  have ln : (putK kvs k z).length ≤ sizeLine := by have := length_putK kvs k z; omega
  refine wpAny_dictSet_heap (knd := tupleKind (mixKind X.prog X.w)) (hsz := hx) hu (key_of I.hok hb) dd fun h1 d1 sb => h _ _ ?_ n
  obtain ⟨q, es, ep, hq, a2, a3, a4, _, a5⟩ := d1
  exact d_write I (by rw [hD]; exact True.intro) sb ⟨q, hq⟩ ⟨ln, nd, _, (rel.put k hb rz).keeps fun c ys ec => (upd_ne (ne_of ec hD (fun z => nomatch z))).trans ec, q, es, ep, hq, a2, a3, a4, a5⟩
/-- the dict is filled by a walk -/
def tDcT (wi : TI) (g : TG) (tt : TT) (tk tv : TE) (vs : List Nat) : TE := fun σ H Q => wi σ H fun J H1 => ∀ D, H1 D = none →
  ∃ W : Nat → Nat → Hp → Prop, (∃ m, W 0 m (upd H1 D (.dT []))) ∧ ∀ i m H2, W i m H2 → (J.stop i H2 ∧ Q (.ref D) H2) ∨
    (J.go i H2 ∧ ∃ Nx : Hp → Prop, (∀ H', Nx H' → ∃ m', m' < m ∧ W (i + 1) m' H') ∧ ∀ x H', J.yld i H2 x H' → g x (wipe σ vs) H' fun σ2 H3 => wipe σ2 vs = wipe σ vs ∧
      tt σ2 H3 fun b H4 => if b = true then tk σ2 H4 fun y H5 => tv σ2 H5 fun z H6 => PutT D y z H6 Nx else Nx H4)
theorem pe_dcT {kx vx tg iter : Expr} {ifs : List Expr} {scope : Scope} {own : List (Str × Nat)} {pos : Pos} {wi : TI} {g : TG} {tt : TT} {tk tv : TE} (hu : X.A.units < cLine) (calm : X.calm = true) (nd : X.N.Nodup) (hi : PI X tg iter wi) (ok : BlkOk X.N X.env.scope scope own)
    (hg : ∀ s H C cl fp, PG (X.blk s H scope (compEnvC scope cl C X.env) fp) tg g) (ht : ∀ s H C cl fp, PTs (X.blk s H scope (compEnvC scope cl C X.env) fp) ifs tt)
    (hk : ∀ s H C cl fp, PE (X.blk s H scope (compEnvC scope cl C X.env) fp) kx tk) (hv : ∀ s H C cl fp, PE (X.blk s H scope (compEnvC scope cl C X.env) fp) vx tv)
    (plain : ∀ x, foldedSetIterable iter X.env x = pure x := by intro _; rfl) : PE X (.DictComp kx vx [⟨tg, iter, ifs, 0⟩] scope pos) (tDcT wi g tt tk tv (own.map (·.2))) := by
  constructor
  intro pins s σ H Q I h
  rw [arm_eval_DictComp]
  have has : ∀ y ∈ scope.names, y.2 = .free → ∃ c, X.env.cells.lookup y.1 = some c := fun y hy e => (ok.free y hy e).elim (fun k => I.ok.has _ (.inl k)) fun k => I.ok.has _ (.inr k)
  refine wpAny_comprehension_free (use := none) rfl plain (closure_ok has) ok.kind (fun y hy e => (ok.uniq y hy).trans (congrArg some e)) ?_
  refine thn (hi.run pins s σ H _ I h) fun xv sa ha => thn ha fun itv sb hb => ?_
  obtain ⟨it, fp, tn, J, H0, rfl, I0, T, t0, fps, walk⟩ := hb
  refine wpAny_newObj_type (newEnv_comp ?_)
  have Dn : H0 sb.heap.objs.size = none := I0.hok.fresh (Nat.le_refl _)
  obtain ⟨W, ⟨m0, w0⟩, turn⟩ := walk _ Dn
  generalize eD : sb.heap.objs.size = D at Dn turn w0 ⊢
  generalize esc : ({ sb with heap := sb.heap.push { cls := .type "dict", data := .dict #[] } } : Shared) = sc
  have hsc : sc.heap = sb.heap.push { cls := .type "dict", data := .dict #[] } := by rw [← esc]
  have I1 : Inv X pins σ (upd H0 D (.dT [])) sc := by
    rw [← esc, ← eD]
    exact I0.laid (t' := sb.toks) (fun b o e => Heap.get?_push_of_some _ e) (Nat.le_refl _) (dt_empty sb.heap I0.big)
  generalize eH1 : upd H0 D (.dT []) = H1 at I1 w0
  have low : ∀ b ∈ fp, b < sb.heap.objs.size := fun b hb => (T.obj _ _ t0 b hb).elim fun o z => Heap.lt_size z.1
  have fps1 : ∀ b ∈ fp, FpOk X pins H1 b ∧ b < sc.heap.objs.size := fun b hb => by
    refine ⟨⟨?_, (fps b hb).2⟩, ?_⟩
    · rw [← eH1, upd_ne (by rw [← eD]; exact Nat.ne_of_lt (low b hb))]
      exact (fps b hb).1
    · rw [hsc, Heap.size_push]
      exact Nat.lt_succ_of_lt (low b hb)
  have t1 : tn 0 sc.heap := T.keep _ _ _ t0 fun b _ o e => by rw [hsc]; exact Heap.get?_push_of_some _ e
  have I2 := block_start I1 ok nd fps1
  have pg := hg sc H1 sc.heap.objs.size (cellsFrom (sc.heap.objs.size + 1) scope.names (cloFrom X.env.cells scope.names [])) fp
  have pt := ht sc H1 sc.heap.objs.size (cellsFrom (sc.heap.objs.size + 1) scope.names (cloFrom X.env.cells scope.names [])) fp
  have pk := hk sc H1 sc.heap.objs.size (cellsFrom (sc.heap.objs.size + 1) scope.names (cloFrom X.env.cells scope.names [])) fp
  have pv := hv sc H1 sc.heap.objs.size (cellsFrom (sc.heap.objs.size + 1) scope.names (cloFrom X.env.cells scope.names [])) fp
  show codeAny (model X.prog X.w) X.A (.compStart (.DictComp kx vx [⟨tg, iter, ifs, 0⟩] scope pos) 0 (.ref it) (.ref D) (compEnvC scope (cellsFrom (sc.heap.objs.size + 1) scope.names (cloFrom X.env.cells scope.names [])) sc.heap.objs.size X.env))
    (compPost (model X.prog X.w) X.A X.xe none _ (.ref D) sc.heap.objs.size) { sc with heap := pushCells (sc.heap.push { cls := .type "dict", data := .dict #[] }) scope.names }
  generalize ece : compEnvC scope (cellsFrom (sc.heap.objs.size + 1) scope.names (cloFrom X.env.cells scope.names [])) sc.heap.objs.size X.env = ce at I2 pg pt pk pv ⊢
  have ceL : ce.locals = sc.heap.objs.size := by rw [← ece]; rfl
  generalize esd : ({ sc with heap := pushCells (sc.heap.push { cls := .type "dict", data := .dict #[] }) scope.names } : Shared) = sd at I2 ⊢
  have t2 : tn 0 sd.heap := T.keep _ _ _ t1 fun b _ o e => by rw [← esd]; exact pushCells_keeps _ _ _ _ (Heap.get?_push_of_some _ e)
  have n1 : ∀ b ∈ fp, H1 b = none := fun b hb => (fps1 b hb).1.1
  have foot : ∀ {σ' : L2.St} {H' : Hp} {s' : Shared}, Inv (X.blk sc H1 scope ce fp) [] σ' H' s' → (∀ b ∈ fp, H' b = none) → ∀ b ∈ fp, FpOk (X.blk sc H1 scope ce fp) [] H' b := fun J' no b hb =>
    ⟨no b hb, (J'.ok.exf b hb).1, J'.ok.exfs b hb, .inl hb, fun x c e => (J'.ok.exf b hb).2 x c e, fun p hp => nomatch (show p ∈ ([] : List (Addr × Obj)) from hp)⟩
  have all : codeAny (model X.prog X.w) X.A (.compLoop (.DictComp kx vx [⟨tg, iter, ifs, 0⟩] scope pos) 0 (.ref it) (.ref D) ce) (compPost (model X.prog X.w) X.A X.xe none
      (fun u s' => ∃ v H', Inv X pins σ H' s' ∧ RelV v u ∧ Q v H') (.ref D) sc.heap.objs.size) sd := by
    refine compLoop_anyD (fun m s' => ∃ i H', Inv (X.blk sc H1 scope ce fp) [] (wipe σ (own.map (·.2))) H' s' ∧ tn i s'.heap ∧ (∀ b ∈ fp, H' b = none) ∧ W i m H') ?_ m0 ⟨0, H1, I2, t2, n1, w0⟩
    rintro m se ⟨i, He, Ie, te, ne, we⟩
    rcases turn i m He we with ⟨stop, fin⟩ | ⟨go, Nx, hNx, step⟩
    · refine thnF (T.done (X.blk sc H1 scope ce fp) rfl rfl rfl calm i [] se _ He (fun _ _ => False) Ie (foot Ie ne) te stop) fun r sf ⟨er, If⟩ => ?_
      subst er
      have Ib : Inv X pins σ He sf := I1.call' (ch := fp) If.os If.base If.hok If.bare fun b hb => ⟨(fps1 b hb).1.2.2.2.1, (fps1 b hb).1.2.1, (fps1 b hb).1.2.2.2.2.1, (fps1 b hb).1.2.2.2.2.2⟩
      have nC : He sc.heap.objs.size = none := by
        rw [← ceL]
        exact If.free
      obtain ⟨ns, hns, _⟩ := If.loc
      rw [show (X.blk sc H1 scope ce fp).env.locals = sc.heap.objs.size from ceL] at hns
      obtain ⟨f0, f1, f2, f3, f4, f5⟩ := I1.fpOk (Nat.le_refl _) nC
      exact ⟨ns, hns, fun hh sbt => ⟨.ref D, He, Ib.turned (t' := sf.toks) (fun b o nb e => (sbt.2 b nb).trans e) f0 f1 f3 f4 f5, rfl, fin⟩⟩
    · refine thnF (T.item (X.blk sc H1 scope ce fp) rfl rfl rfl calm i [] se _ He (fun _ _ => False) Ie (foot Ie ne) te go) fun r sf ⟨u, er, hf⟩ => ?_
      subst er
      refine thnF hf fun _ sg ⟨x, Hg, Ig, rg, yg, tg', ng⟩ => ?_
      have Ip := Ig.pinned (foot Ig ng) (T.obj _ _ tg')
      refine thnF (pg.run _ sg _ Hg x u _ Ip rg (step x Hg yg)) fun _ sh ⟨σh, Hh, Ih, wh, qh⟩ => ?_
      refine thnF (pt.run _ sh σh Hh _ Ih qh) fun b si ⟨Hi, Ii, qi⟩ => ?_
      have back : ∀ {s' : Shared} {H' : Hp}, Inv (X.blk sc H1 scope ce fp) ([] ++ pinsAt fp sg.heap) σh H' s' → Nx H' →
          ∃ m', m' < m ∧ ∃ i H', Inv (X.blk sc H1 scope ce fp) [] (wipe σ (own.map (·.2))) H' s' ∧ tn i s'.heap ∧ (∀ b ∈ fp, H' b = none) ∧ W i m' H' := fun {s' H'} J' nx => by
        obtain ⟨m', lt, w'⟩ := hNx H' nx
        have pin : ∀ b ∈ fp, ∀ o, sg.heap.get? b = some o → s'.heap.get? b = some o ∧ H' b = none := fun b hb o e =>
          have z := J'.pin (b, o) (List.mem_append_right _ (List.mem_append_right _ (mem_pinsAt hb e)))
          ⟨z.1, z.2.1⟩
        have ln : (wipe σ (own.map (·.2))).length = σh.length := by rw [← wh, wipe_length]
        refine ⟨m', lt, i + 1, H', (J'.unpinned (pins := [])).weak ln (fun j v e => ?_), T.keep _ _ _ tg' (fun b hb o e => (pin b hb o e).1), (fun b hb => ?_), w'⟩
        · rw [← wh] at e
          exact (wipe_some e).1
        · obtain ⟨o, e, _⟩ := T.obj _ _ tg' b hb
          exact (pin b hb o e).2
      cases b with
      | false => exact back Ii (by simpa using qi)
      | true =>
        rw [if_pos rfl] at qi
        show if true = true then _ else _
        rw [if_pos rfl]
        refine thnF (pk.run _ si σh Hi _ Ii qi) fun yv sj ⟨y, Hj, Ij, rj, qj⟩ => ?_
        refine thnF (pv.run _ sj σh Hj _ Ij qj) fun zv sk ⟨z, Hk, Ik, rk, qk⟩ => ?_
        exact put_T (X := X.blk sc H1 scope ce fp) hu Ik rj rk qk fun s' H' J' nx => back J' nx
  exact codeAny_compStart_dict all (T.self X.A 0 _ _ _ t2 all)
end
/-- over anything that is walked -/
theorem dcT_it {J : It} {n : Nat} {G : Hp → Prop} {Y : Nat → Hp → V → Hp → Prop} (w : Walk J n G Y) {g : TG} {tt : TT} {tk tv : TE} {vs : List Nat} {σ : L2.St} {H1 : Hp} {D : Addr} {Qd : Hp → Prop} (Pv : Nat → Hp → Prop) (h0 : Pv 0 (upd H1 D (.dT []))) (hG : ∀ i H, i ≤ n → Pv i H → G H)
    (hs : ∀ i x H H', i < n → Pv i H → Y i H x H' → g x (wipe σ vs) H' fun σ2 H2 => wipe σ2 vs = wipe σ vs ∧ tt σ2 H2 fun b H3 => if b = true then tk σ2 H3 fun y H4 => tv σ2 H4 fun z H5 => PutT D y z H5 (Pv (i + 1)) else Pv (i + 1) H3)
    (hd : ∀ H, Pv n H → Qd H) :
    ∃ W : Nat → Nat → Hp → Prop, (∃ m, W 0 m (upd H1 D (.dT []))) ∧ ∀ i m H, W i m H → (J.stop i H ∧ Qd H) ∨
      (J.go i H ∧ ∃ Nx : Hp → Prop, (∀ H', Nx H' → ∃ m', m' < m ∧ W (i + 1) m' H') ∧ ∀ x H', J.yld i H x H' → g x (wipe σ vs) H' fun σ2 H2 => wipe σ2 vs = wipe σ vs ∧
        tt σ2 H2 fun b H3 => if b = true then tk σ2 H3 fun y H4 => tv σ2 H4 fun z H5 => PutT D y z H5 Nx else Nx H3) := by
  refine ⟨fun i m H => m + i = n ∧ Pv i H, ⟨n, rfl, h0⟩, ?_⟩
  rintro i m H ⟨e, p⟩
  rcases Nat.lt_or_ge i n with lt | ge
  · exact .inr ⟨w.goes i H lt (hG i H (by omega) p), Pv (i + 1), fun H' p' => ⟨m - 1, by omega, by omega, p'⟩, fun x H' y => hs i x H H' lt p (w.yields i H x H' lt (hG i H (by omega) p) y)⟩
  · obtain rfl : i = n := by omega
    exact .inl ⟨w.stops H (hG i H (Nat.le_refl _) p), hd H p⟩
end Td

set_option Elab.async false
set_option linter.all false
set_option maxRecDepth 100000
set_option maxHeartbeats 4000000
/-! World: things -/
namespace Kd
open PySem PySem.Spec PyProof.Rows L2 Dq Vl Pf Ed ClX Td
/-- rows by Tags, told by f -/
def RwF (K : PySem.W.Frag) (H : Hp) (f : Ro → D5) : List Ro → List (List Key × V) → Prop
  | [], kvs => kvs = []
  | r :: rs, kvs => ∃ v kvs', kvs = (keyR r, v) :: kvs' ∧ Dv (O5 K) H (f r) v ∧ RwF K H f rs kvs'
theorem RwF.len {K : PySem.W.Frag} {H : Hp} {f : Ro → D5} : ∀ {rows : List Ro} {kvs : List (List Key × V)}, RwF K H f rows kvs → kvs.length = rows.length
  | [], _, h => by cases h; rfl
  | r :: rs, _, ⟨v, kvs, e, _, p⟩ => by subst e; rw [List.length_cons, List.length_cons, p.len]
theorem RwF.app {K : PySem.W.Frag} {H : Hp} {f : Ro → D5} {r : Ro} {v : V} (hv : Dv (O5 K) H (f r) v) : ∀ {rows : List Ro} {kvs : List (List Key × V)}, RwF K H f rows kvs → RwF K H f (rows ++ [r]) (kvs ++ [(keyR r, v)])
  | [], _, h => by cases h; exact ⟨v, [], rfl, hv, rfl⟩
  | r' :: rs, _, ⟨v', kvs, e, h, p⟩ => by subst e; exact ⟨v', _, rfl, h, RwF.app hv p⟩
theorem RwF.mono {K : PySem.W.Frag} {H H' : Hp} {f : Ro → D5} : ∀ {rows : List Ro} {kvs : List (List Key × V)}, (∀ r ∈ rows, ∀ v, Dv (O5 K) H (f r) v → Dv (O5 K) H' (f r) v) → RwF K H f rows kvs → RwF K H' f rows kvs
  | [], _, _, h => h
  | r :: rs, _, o, ⟨v, kvs, e, h, p⟩ => ⟨v, kvs, e, o r List.mem_cons_self v h, RwF.mono (fun r' hr => o r' (List.mem_cons_of_mem _ hr)) p⟩
theorem RwF.same {K : PySem.W.Frag} {H H' : Hp} {f : Ro → D5} (s : Same H H') {rows : List Ro} {kvs : List (List Key × V)} (h : RwF K H f rows kvs) : RwF K H' f rows kvs := RwF.mono (fun r _ v hv => (kps5 (K := K)).dv s hv) h
theorem rwf_get {K : PySem.W.Frag} {H : Hp} {f : Ro → D5} : ∀ {rows : List Ro} {kvs : List (List Key × V)} (k : Str) (n : Nat), RwF K H f rows kvs →
    (findR rows k n = none → valV kvs (keyT k n) = none) ∧ ∀ r, findR rows k n = some r → ∃ v, valV kvs (keyT k n) = some v ∧ Dv (O5 K) H (f r) v
  | [], _, k, n, h => by cases h; exact ⟨fun _ => rfl, fun r h => nomatch h⟩
  | r :: rs, _, k, n, ⟨v, kvs, e, h, p⟩ => by
    subst e
    obtain ⟨i1, i2⟩ := rwf_get k n p
    unfold findR valV at *
    rw [List.find?_cons, List.find?_cons]
    have e : decide ((keyR r, v).1 = keyT k n) = isRow k n r := keyT_eq
    rw [e]
    cases isRow k n r with
    | true => exact ⟨fun h => (nomatch h), fun r' h => by cases h; exact ⟨v, rfl, ‹_›⟩⟩
    | false => exact ⟨i1, i2⟩
/-- what things tells of a row -/
def fTh (r : Ro) : D5 := .tup [.str r.kind, mapR r]
theorem fTh_kpt {r : Ro} (o : OkR r) : kpt Kmaps (fTh r) = true := by
  simp only [fTh, kpt, kptL, mapR_kpt o, Bool.and_true]
theorem mapR_lay {r : Ro} (o : OkR r) : lay 5 (mapR r) = true := by
  obtain ⟨la, _, ka, _⟩ := okV_parts o.a
  obtain ⟨lb, _, kb, _⟩ := okV_parts o.b
  obtain ⟨lc, _, kc, _⟩ := okV_parts o.c
  have e1 : below (["a", "b", "c", "id"] : List Str) = [[("x" : Str)]] := by decide +kernel
  have e2 : below (["a", "b", "c", "id", "m"] : List Str) = [[("x" : Str)]] := by decide +kernel
  have e3 : okKs (["a", "b", "c", "id"] : List Str) = true := by decide +kernel
  have e4 : okKs (["a", "b", "c", "id", "m"] : List Str) = true := by decide +kernel
  unfold mapR
  cases r.mr with
  | none => simp [lay, la, lb, lc, ka, kb, kc, e1, e3, tagR, tagOf, kpt, kptL]
  | some m => simp [lay, la, lb, lc, ka, kb, kc, e2, e4, tagR, tagOf, kpt, kptL]
theorem find_take {rows : List Ro} (o : ∀ r ∈ rows, r.kind = kname (koR r)) (nd : (rows.map TgR).Nodup) {i : Nat} {r : Ro} (h : rows[i]? = some r) : findR (rows.take i) r.kind r.n = none := by
  unfold findR
  rw [List.find?_eq_none]
  intro x hx q
  have hi := (List.getElem?_eq_some_iff.mp h).1
  have mr := List.mem_of_getElem? h
  have mx := List.mem_of_mem_take hx
  unfold isRow at q
  rw [Bool.and_eq_true, decide_eq_true_eq, decide_eq_true_eq] at q
  have et : TgR x = TgR r := by
    have q1 := q.1
    rw [o x mx, o r mr, kname_inj] at q1
    unfold TgR
    rw [q1, q.2]
  have hd2 : r ∈ rows.drop i := by
    rw [List.drop_eq_getElem_cons hi, (List.getElem?_eq_some_iff.mp h).2]
    exact List.mem_cons_self
  have nn := nd
  rw [← List.take_append_drop i rows, List.map_append] at nn
  exact (List.nodup_append.mp nn).2.2 _ (List.mem_map_of_mem (f := TgR) hx) _ (List.mem_map_of_mem (f := TgR) hd2) et
abbrev sTh : Stmt := inClass (tp 34) 1
abbrev NTh : List Str := ["self", "tag"]
theorem scTh : FnScope NTh ["self"] (defScope sTh) := ⟨rfl, rfl, rfl, by decide +kernel, rfl, by decide +kernel, by decide +kernel⟩
def spTh (K : PySem.W.Frag) (CW : Addr) : Sp := fun vs H Q _ => ∃ (aw kd sd : Addr) (rows : List Ro) (last : Int), vs = [.ref aw] ∧ WAt K CW H aw kd sd rows last ∧ (∀ r ∈ rows, OkR r) ∧ (∀ r ∈ rows, r.kind = kname (koR r)) ∧ (rows.map TgR).Nodup ∧ rows.length ≤ 1000 ∧
  ∀ (D : Addr) (kvs : List (List Key × V)) H', Same H H' → H' D = some (.dT kvs) → RwF K H' fTh rows kvs → Q (.ref D) H'
section
variable {P : Program} {w : World} {K : PySem.W.Frag} {mg : Str → Option Value} {base : Heap} {CW : Addr}
theorem ok_things {f fF : Addr} {fd fdF : FuncData} (F : Fun K "things" "World.things" sTh f fd) (T : TxtW K mg CW) (DF : Def P w K mg base 6 "fresh" fF fdF ["value"] (spFrs K 5)) : FnOk P w K mg base CX0 7 f fd ["self"] (spTh K CW) := by
  refine F.ok scTh (fun vs H Q E h => ?_) (fun cdv A outer s H vs Q E hr h => ?_)
  · obtain ⟨aw, kd, sd, rows, last, rfl, _⟩ := h
    rfl
  · obtain ⟨aw, kd, sd, rows, last, rfl, hw, oks, okk, nd, rl, q⟩ := h
    refine ⟨_, pss_one (ps_ret (pe_lock (pe_dcT (own := [("tag", 1)]) (g := gName 1) (tt := tYes) (Nat.lt_of_le_of_lt (Nat.le_add_right _ 64) (hu64 hr)) rfl scTh.nd (pi_keys (pe_fld (pv 0) rfl)) (blkOk_by (N := NTh) (sc := defScope sTh) (by decide +kernel)) (fun _ _ _ _ _ => pg_name (i := 1) scTh.nd rfl (Or.inl rfl)) (fun _ _ _ _ _ => pts_nil) (fun _ _ _ _ _ => pv 1)
      (fun _ _ _ _ _ => pe_tup (pa_cons (pe_ix (show IxR _ (rIxT K) from ix_tup) (pv 1) pe_int (fun _ _ => rfl)) (pa_cons (pe_call DF.ok (hr.mono (by decide)) rfl DF.g DF.kp DF.b .nil pass0 (pa_cons (pe_dget (hu_of hr) (show PE _ _ (tFld K (tVar 0) "_standing") from pe_fld (pv 0) rfl) (pv 1) (fun _ _ => rfl)) pa_nil)) pa_nil)))))), ?_⟩
    have P := kps5 (K := K)
    obtain ⟨dx, ew⟩ := hw.w
    obtain ⟨kvs, es, rr⟩ := hw.s
    have nws : aw ≠ sd := fun e => by rw [e, es] at ew; cases ew
    have alT : ∀ a ∈ [sd], ∀ o, H a = some o → Alien Kmaps o := fun a m o e => by
      rw [List.mem_singleton.mp m, es] at e
      cases e
      exact ⟨fun xs e => (nomatch e), fun o xs e => (nomatch e), fun kvs' ks e hk => (nomatch e)⟩
    refine ⟨sd, .dT kvs, es, True.intro, fun od => ?_⟩
    have c0 : Ch [sd] H (upd H sd (.frz od (.dT kvs))) := Ch.upd (by simp)
    refine ⟨_, rfl, aw, CW, dx, _, _, rfl, c0 _ _ ew (by simpa using nws), T.cl, T.n2, wl2, sd, od, rfl, .inr ⟨kvs, upd_same, fun D hD => ?_⟩⟩
    have nDs : D ≠ sd := fun e => by rw [e, upd_same] at hD; cases hD
    have hD0 : H D = none := by rwa [upd_ne nDs] at hD
    refine dcT_it (walk_keysT (d := sd) (o := od) (kvs := kvs)) (fun i H' => (H' sd = some (.frz od (.dT kvs)) ∧ Ch [sd] H H') ∧ ∃ kv', H' D = some (.dT kv') ∧ RwF K H' fTh (rows.take i) kv')
      ⟨⟨(upd_ne (Ne.symm nDs)).trans upd_same, Ch.updNew c0 hD0⟩, [], upd_same, rfl⟩ (fun i H' _ h => h.1.1) (fun i x H3 H4 hlt h y => ?_) (fun H3 h => ?_)
    · obtain ⟨⟨e1, e2⟩, kv', e3, e4⟩ := h
      obtain ⟨rfl, k, v1, qa, e6, rfl, hq⟩ := y
      obtain ⟨r, er, rfl, hv1⟩ := rr.get e6
      have mr := List.mem_of_getElem? er
      have or := oks r mr
      have ew3 := e2 _ _ ew (by simpa using nws)
      have rr3 : Rws K H4 rows kvs := Rws.ch e2 alT oks rr
      have hq : H4 qa = some (.tup [.str "#", .str r.kind, .int (r.n : Int)]) := hq
      refine ⟨rfl, _, rfl, ?_⟩
      have ec : ED (O5 K) (tCall (spFrs K 5) [] E0 (tCons (tDGet (tFld K (tVar 0) "_standing") (tVar 1)) tNil)) [some (.ref aw), some (.ref qa)] H4 (mapR r) := fun H5 s5 Q5 q5 => by
        have row : ED (O5 K) (tDGet (tFld K (tVar 0) "_standing") (tVar 1)) [some (.ref aw), some (.ref qa)] H5 (mapR r) :=
          ed_row (b := qa) (k := r.kind) (n := r.n) (ep_fld (K := K) (ep_pv rfl fun H2 s2 => ⟨aw, CW, dx, _, _, rfl, s2 _ _ (s5 _ _ ew3), T.cl, T.n2, wl2, rfl, .inr ⟨od, s2 _ _ (s5 _ _ e1)⟩⟩)) (ep_pv rfl fun H2 s2 => ⟨rfl, s2 _ _ (s5 _ _ hq)⟩) (rr3.same s5) (by
            have := find_nd okk nd mr
            rwa [← okk r mr] at this)
        exact row.run fun v H6 s6 hv => ⟨v, mapR r, rfl, hv, mapR_lay or, fun v' H' s' hd' => q5 v' H' (Same.trans s6 s') hd'⟩
      refine (ed_tup P (ea_cons P (ed_tag1 (i := 1) rfl hq) (ea_cons P ec ea_nil)) (by simp)).run fun v H5 s5 hv => ?_
      have kl : kv'.length ≤ 1000 := by
        rw [e4.len, List.length_take]
        omega
      have nz : valV kv' (keyR r) = none := (rwf_get _ _ e4).1 (find_take okk nd er)
      refine ⟨kv', keyR r, qa, rfl, s5 _ _ e3, s5 _ _ hq, Nat.lt_of_le_of_lt kl (by decide), ⟨(upd_ne (Ne.symm nDs)).trans (s5 _ _ e1), Ch.updNew (Ch.trans e2 (Ch.same s5)) hD0⟩, _, upd_same, ?_⟩
      rw [putK_new v nz, List.take_succ, er]
      have cD : Ch [D] H5 (upd H5 D (.dT (kv' ++ [(keyR r, v)]))) := Ch.upd (by simp)
      have al : ∀ b ∈ [D], ∀ o, H5 b = some o → Alien Kmaps o := fun b hb o e => by
        rw [List.mem_singleton.mp hb, s5 _ _ e3] at e
        cases e
        exact ⟨fun xs e => (nomatch e), fun o xs e => (nomatch e), fun kvs' ks e hk => (nomatch e)⟩
      exact RwF.app (Dv.ch cD al _ _ (fTh_kpt or) hv) (RwF.mono (fun r' hr' v' hv' => Dv.ch cD al _ _ (fTh_kpt (oks r' (List.mem_of_mem_take hr'))) (P.dv s5 hv')) e4)
    · obtain ⟨⟨e1, e2⟩, kv', e3, e4⟩ := h
      rw [rr.len, List.take_length] at e4
      have cS : Ch [sd] H3 (upd H3 sd (.dT kvs)) := Ch.upd (by simp)
      have alS : ∀ b ∈ [sd], ∀ o, H3 b = some o → Alien Kmaps o := fun b hb o e => by
        rw [List.mem_singleton.mp hb, e1] at e
        cases e
        exact ⟨fun xs e => (nomatch e), fun o xs e => (nomatch e), fun kvs' ks e hk => (nomatch e)⟩
      refine ⟨e1, q D kv' _ (fun c o e => ?_) ((upd_ne nDs).trans e3) (RwF.mono (fun r hr v hv => Dv.ch cS alS _ _ (fTh_kpt (oks r hr)) hv) e4)⟩
      by_cases n : c = sd
      · subst n
        rw [es] at e
        cases e
        exact upd_same
      · exact (upd_ne n).trans (e2 c o e (by simpa using n))
end
end Kd

set_option Elab.async false
set_option linter.all false
set_option maxRecDepth 100000
set_option maxHeartbeats 4000000
/-! _law_row -/
namespace Ed
open PySem PySem.Spec PyProof.Rows L2 Dq Vl Kd
theorem selV_head (p : Nat → Bool) (out : Nat → V) : ∀ n : Nat, ∃ u, (selV n p out ++ [V.non])[0]? = some u ∧ (((∀ j, j < n → p j = false) ∧ u = .non) ∨ ∃ j, j < n ∧ p j = true ∧ u = out j)
  | 0 => ⟨.non, rfl, .inl ⟨fun j h => absurd h (Nat.not_lt_zero _), rfl⟩⟩
  | n + 1 => by
    obtain ⟨u, e, h⟩ := selV_head p out n
    rw [selV_succ]
    cases es : selV n p out with
    | nil =>
      have no : ∀ j, j < n → p j = false := fun j hj => by
        cases ep : p j with
        | false => rfl
        | true =>
          have m : out j ∈ selV n p out := by
            unfold selV
            exact List.mem_filterMap.mpr ⟨j, List.mem_range.mpr hj, by rw [ep]; rfl⟩
          rw [es] at m
          cases m
      cases ep : p n with
      | true => exact ⟨out n, rfl, .inr ⟨n, Nat.lt_succ_self n, ep, rfl⟩⟩
      | false =>
        refine ⟨.non, rfl, .inl ⟨fun j hj => ?_, rfl⟩⟩
        rcases Nat.lt_succ_iff_lt_or_eq.mp hj with h | rfl
        · exact no j h
        · exact ep
    | cons x r =>
      rw [es] at e
      cases e
      refine ⟨_, rfl, .inr ?_⟩
      rcases h with ⟨no, _⟩ | ⟨j, hj, h⟩
      · rw [selV_none no] at es; cases es
      · exact ⟨j, Nat.lt_succ_of_lt hj, h⟩
end Ed
namespace Kd
open PySem PySem.Spec PyProof.Rows L2 Dq Vl Pf Ed ClX
/-- the parts of a key -/
def kl (d : D5) : List D5 := match keyD d with
  | .tup l => l
  | _ => []
theorem keyD_tup (d : D5) : keyD d = .tup (kl d) := by
  unfold kl
  cases d <;> rw [keyD]
theorem kl_tag (k : Str) (n : Nat) : kl (tagOf k n) = [.str "tuple", .tup [.str "other", .str "#"], .tup [.str "other", .str k], .tup [.str "integer", .int (n : Int)]] := by
  simp [kl, tagOf, keyD, keyL]
theorem tag_lyk {k : Str} {n : Nat} : lyk 5 (tagOf k n) = true := by simp [lyk, tagOf, nolL, nol]
theorem kl_tag_dp (k : Str) (n : Nat) : dpL (kl (tagOf k n)) ≤ 30 := by rw [kl_tag]; simp [dpL, dp]
theorem e5_ss {s t : Str} : eqv5 (.str s : D5) (.str t) = some (s == t) := by rw [e5_str]; rfl
/-- two Tags by their keys -/
theorem key_tag_eqv (a b : Bool) (m n : Nat) : eqvL5 (kl (tagOf (kname a) m)) (kl (tagOf (kname b) n)) = some (decide (((a, m) : Tg) = (b, n))) := by
  rw [kl_tag, kl_tag]
  have s1 : eqv5 (.str "tuple" : D5) (.str "tuple") = some true := by rw [e5_ss]; decide +kernel
  have s2 : eqv5 (.tup [.str "other", .str "#"] : D5) (.tup [.str "other", .str "#"]) = some true := eqv_self _ (by simp [pln, plnL])
  have s3 : eqv5 (.tup [.str "other", .str (kname a)] : D5) (.tup [.str "other", .str (kname b)]) = some (decide (a = b)) := by cases a <;> cases b <;> decide +kernel
  have s0 : eqv5 (.str "integer" : D5) (.str "integer") = some true := by rw [e5_ss]; decide +kernel
  have s4 : eqv5 (.tup [.str "integer", .int (m : Int)] : D5) (.tup [.str "integer", .int (n : Int)]) = some (decide (m = n)) := by
    rw [e5_tt, e5L_cc, if_pos s0, e5L_cc, e5_int]
    have e : intE (m : Int) (.int (n : Int)) = some (decide (m = n)) := by
      show some ((m : Int) == (n : Int)) = _
      congr 1
      rw [Bool.eq_iff_iff, beq_iff_eq, decide_eq_true_eq]
      omega
    rw [e]
    by_cases q : m = n
    · rw [decide_eq_true q, if_pos rfl, e5L_nn]
    · rw [decide_eq_false q, if_neg (by simp)]
  rw [e5L_cc, if_pos s1, e5L_cc, if_pos s2, e5L_cc, s3]
  by_cases q : a = b
  · rw [decide_eq_true q, if_pos rfl, e5L_cc, s4]
    by_cases q2 : m = n
    · rw [decide_eq_true q2, if_pos rfl, e5L_nn, q, q2, decide_eq_true rfl]
    · rw [decide_eq_false q2, if_neg (by simp), decide_eq_false (fun e => q2 (Prod.mk.inj e).2)]
  · rw [decide_eq_false q, if_neg (by simp), decide_eq_false (fun e => q (Prod.mk.inj e).1)]
abbrev sRow : Stmt := tp 49
abbrev NRow : List Str := ["_law_m", "_law_tag_here", "_law_row_here"]
theorem scRow : FnScope NRow ["_law_m", "_law_tag_here"] (defScope sRow) := ⟨rfl, rfl, rfl, by decide +kernel, rfl, by decide +kernel, by decide +kernel⟩
def spRow (K : PySem.W.Frag) : Sp := fun vs H Q _ => ∃ (am tb rl : Addr) (hb : Bool) (rows : List Ro) (last : Int) (v : V) (d : D5) (hit : Ro → Bool), vs = [.ref am, v] ∧ MAt K H am tb rl hb rows last ∧ rows.length ≤ 1000 ∧ Dv (O5 K) H d v ∧ lyk 5 d = true ∧
  (∀ r ∈ rows, eqvL5 (kl (tagR r)) (kl d) = some (hit r)) ∧ (rows.any hit = true → ∀ (l : Addr) H', Same H H' → Q (.ref l) H') ∧ (rows.any hit = false → ∀ H', Same H H' → Q .non H')
section
variable {P : Program} {w : World} {K : PySem.W.Frag} {mg : Str → Option Value} {base : Heap}
theorem ok_row {f fK : Addr} {fd fdK : FuncData} (F : Fun K "_law_row" "_law_row" sRow f fd) (DK : Def P w K mg base 6 "_law_key" fK fdK ["_law_value"] (spKey K 5)) : FnOk P w K mg base CX0 7 f fd ["_law_m", "_law_tag_here"] (spRow K) := by
  refine F.ok scRow (fun vs H Q E h => ?_) (fun cdv A outer s H vs Q E hr h => ?_)
  · obtain ⟨am, tb, rl, hb, rows, last, v, d, hit, rfl, _⟩ := h
    rfl
  · obtain ⟨am, tb, rl, hb, rows, last, v, d, hit, rfl, hm, rl1, hd, ok, hh, q1, q2⟩ := h
    refine ⟨_, pss_one (ps_ret (pe_ix ix_list (pe_op op_cat (pe_lc (own := [("_law_row_here", 2)]) (g := gName 2) rfl scRow.nd (pi_list (pe_dget (hu_of hr) (pv 0) pe_str (fun _ _ => rfl))) (blkOk_by (N := NRow) (sc := defScope sRow) (by decide +kernel)) (fun _ _ _ _ _ => pg_name (i := 2) scRow.nd rfl (Or.inl rfl))
        (fun _ _ _ _ _ => pts_one (pt_cmpR (show OpR _ _ (rEq5 K) from op_eq5 (hu64 hr)) (pe_call DK.ok (hr.mono (by decide)) rfl DK.g DK.kp DK.b .nil pass0 (pa_cons (pe_ix (show IxR _ (rIxL K) from ix_list) (pv 2) pe_int (fun _ _ => rfl)) pa_nil)) (pe_call DK.ok (hr.mono (by decide)) rfl DK.g DK.kp DK.b .nil pass0 (pa_cons (pv 1) pa_nil)) (nomark _))) (fun _ _ _ _ _ => pv 2)) (pe_lst (pa_cons pe_non pa_nil))) pe_int (fun _ _ => rfl))), ?_⟩
    have P := kps5 (K := K)
    obtain ⟨vs, erl, mr⟩ := hm.r
    have lvs := mr.len
    have cls : ∀ {j : Nat} {x : V}, vs[j]? = some x → x = vs.getD j .non := fun {j x} e => by rw [List.getD_eq_getElem?_getD, e]; rfl
    have lc := ep_lcL (K := K) (σ := [some (.ref am), some v, none]) (H := H) (i := 2) (xs := vs) (p := fun j => (rows[j]?.map hit).getD false) (out := fun j => vs.getD j .non) (tt := tTest (tOp (rEq5 K) (tCall (spKey K 5) [] E0 (tCons (tOp (rIxL K) (tVar 2) (tC (.int 0))) tNil)) (tCall (spKey K 5) [] E0 (tCons (tVar 1) tNil)))) (te := tVar 2)
      ((ep_rows (i := 0) hm rfl).imp fun v H2 s e => ⟨rl, e, SqL.of (s _ _ erl)⟩) (by omega) (fun u => rfl) (fun j x H3 ex s3 => by
        obtain ⟨r, l, t, d', er, rfl, hl, ht, _⟩ := (mr.same s3).get ex
        have mr' := List.mem_of_getElem? er
        rw [er]
        show ET _ _ _ (hit r)
        refine et_eq5 (l := kl (tagR r)) (m := kl d) (fun H4 s4 Q4 q4 => ?_) (fun H4 s4 Q4 q4 => ?_) (hh r mr') (kl_tag_dp _ _)
        · refine ⟨_, rfl, l, _, _, .ref t, rfl, rfl, SqL.of (s4 _ _ hl), atI_nat (j := 0) rfl, .ref t, tagR r, rfl, ⟨t, _, rfl, .inl (.inl (s4 _ _ ht)), _, _, rfl, rfl, _, _, rfl, rfl, _, _, rfl, rfl, rfl⟩, tag_lyk, fun v' H' s' hd' => q4 v' H' s' (by rw [← keyD_tup]; exact hd')⟩
        · exact ⟨_, rfl, v, d, rfl, P.dv (Same.trans s3 s4) hd, ok, fun v' H' s' hd' => q4 v' H' s' (by rw [← keyD_tup]; exact hd')⟩)
      (fun j x H3 ex s3 _ => ep_pv (v := x) rfl fun _ _ => cls ex)
    obtain ⟨u, eu, hu⟩ := selV_head (fun j => (rows[j]?.map hit).getD false) (fun j => vs.getD j .non) vs.length
    refine EP.ret (ep_ixL (i := 0) (ep_cat lc ep_lstN (by have := selV_len (n := vs.length) (p := fun j => (rows[j]?.map hit).getD false) (out := fun j => vs.getD j .non); simp only [List.length_singleton]; omega)) eu) fun u' H2 s2 e => ?_
    rw [e]
    rcases hu with ⟨no, rfl⟩ | ⟨j, hj, hp, rfl⟩
    · refine q2 ?_ H2 s2
      rw [List.any_eq_false]
      intro r hr'
      obtain ⟨j, hj, ej⟩ := List.getElem_of_mem hr'
      have := no j (by omega)
      rw [List.getElem?_eq_getElem hj, ej] at this
      simpa using this
    · have hj' : j < rows.length := by omega
      rw [List.getElem?_eq_getElem hj'] at hp
      obtain ⟨r, l, t, d', er, ex, _⟩ := mr.get (List.getElem?_eq_getElem hj)
      rw [← cls (List.getElem?_eq_getElem hj), ex]
      exact q1 (List.any_eq_true.mpr ⟨_, List.getElem_mem hj', hp⟩) l H2 s2
end
end Kd

set_option Elab.async false
set_option linter.all false
set_option maxRecDepth 100000
set_option maxHeartbeats 4000000
/-! _law_destroy -/
namespace Ed
open PySem PySem.Spec PyProof.Rows L2 Dq Vl Kd
theorem selV_front {n : Nat} {p : Nat → Bool} {out : Nat → V} : selV (n + 1) p out = (if p 0 = true then [out 0] else []) ++ selV n (fun j => p (j + 1)) (fun j => out (j + 1)) := by
  unfold selV
  rw [List.range_succ_eq_map, List.filterMap_cons, List.filterMap_map]
  by_cases h : p 0 = true
  · rw [if_pos h, if_pos h]
    rfl
  · rw [if_neg h, if_neg h]
    rfl
theorem ep_lcLn {K : PySem.W.Frag} {σ : L2.St} {H : Hp} {te ta : TE} {tt : TT} {i : Nat} {xs : List V} {p : Nat → Bool} {out : Nat → V} (h : EP ta σ H fun v H2 => ∃ a, v = .ref a ∧ SqL K H2 a xs) (hl : xs.length ≤ 10000) (hw : ∀ u, wipe ((wipe σ [i]).set i (some u)) [i] = wipe σ [i])
    (ht : ∀ j x H2, xs[j]? = some x → Same H H2 → ET tt ((wipe σ [i]).set i (some x)) H2 (p j))
    (he : ∀ j x H2, xs[j]? = some x → Same H H2 → p j = true → EP te ((wipe σ [i]).set i (some x)) H2 fun v _ => v = out j) :
    EP (tLc (iList K ta) (gName i) tt te [i]) σ H fun v H2 => ∃ D, v = .ref D ∧ H D = none ∧ H2 D = some (.lst (selV xs.length p out)) := fun H1 s Q k => by
  refine h H1 s _ fun v H2 s2 ⟨a, e, ha⟩ => ?_
  subst e
  refine ⟨a, rfl, ⟨xs, ha⟩, fun D nD => ?_⟩
  have nD0 : H D = none := by
    cases e : H D with
    | none => rfl
    | some o => rw [s2 _ _ (s _ _ e)] at nD; cases nD
  refine lc_it (walk_list (xs := xs)) (fun j H' => Same H2 H' ∧ H' D = some (.lst (selV j p out))) ⟨sm_upd nD, upd_same⟩ (fun j H' _ q => SqL.same ha q.1) (fun j x H3 H3' hj q y => ?_) (fun H3 q => k _ H3 (Same.trans s2 q.1) ⟨D, rfl, nD0, q.2⟩)
  obtain ⟨s3, eD⟩ := q
  obtain ⟨rfl, ex⟩ := y
  have s03 := Same.trans s (Same.trans s2 s3)
  refine ⟨hw x, (ht j x H3' ex s03).run fun H4 s4 => ?_⟩
  cases ep : p j with
  | false => exact Vl.iteN rfl ⟨Same.trans s3 s4, by rw [selV_succ, ep, s4 _ _ eD]; simp⟩
  | true =>
    refine Vl.iteC rfl ((he j x H4 ex (Same.trans s03 s4) ep).run fun v H5 s5 ev => ?_)
    subst ev
    refine ⟨_, s5 _ _ (s4 _ _ eD), Nat.lt_of_le_of_lt selV_len (Nat.lt_of_le_of_lt (show j ≤ 10000 by omega) (by decide)), fun c o e => ?_, by rw [upd_same, selV_succ, ep]; rfl⟩
    have nc : c ≠ D := fun z => by rw [z, nD] at e; cases e
    rw [upd_ne nc]
    exact s5 _ _ (s4 _ _ (s3 _ _ e))
/-- d[k] = e, then the rest -/
theorem EP.put {σ : L2.St} {H : Hp} {td ty te : TE} {R : V → Hp → Prop} {u : TS} {D : Ends} (h : EP te σ H R) (k : ∀ v H2, Same H H2 → R v H2 → td σ H2 fun x H3 => ty σ H3 fun y H4 => ∃ a H5, x = .ref a ∧ DPut H4 a y v H5 ∧ u D σ H5) : tSeq (sDPut td ty te) u D σ H := h.run k
end Ed
namespace Kd
open PySem PySem.Spec PyProof.Rows L2 Dq Vl Pf Ed ClX
/-- a row that the law has drawn -/
def OkL (r : Ro) : Prop := ∃ (ko : Bool) (last : Nat) (a b c : Vn), r = newR ko last (vD a) (vD b) (vD c) ∧ vOk a ∧ vOk b ∧ vOk c
theorem OkL.w {r : Ro} (hb : Bool) (h : OkL r) : OkW hb r := by
  obtain ⟨ko, last, a, b, c, rfl, ha, hb', hc⟩ := h
  exact okW_new ha hb'
theorem vT_un (v : Vn) : ((vT v).map tgD).filterMap unTg = vT v := unTg_map _
theorem tgs_new {hb ko : Bool} {last : Nat} {a b c : Vn} (ha : vOk a) (hb' : vOk b) : tgsR hb (newR ko last (vD a) (vD b) (vD c)) = (hldN hb ko).flatMap fun s : Str => vT (if s = ("a" : Str) then a else b) := by
  unfold tgsR
  rw [koR_new, held_new ha hb', unTg_map]
theorem MRows.filt {K : PySem.W.Frag} {H : Hp} (p : Ro → Bool) : ∀ {rs : List Ro} {vs : List V}, MRows K H rs vs → MRows K H (rs.filter p) (selV vs.length (fun j => (rs[j]?.map p).getD false) (fun j => vs.getD j .non))
  | [], _, h => by cases h; rfl
  | r :: rs, _, ⟨l, t, d, vs', e, h1, h2, h3, q⟩ => by
    subst e
    have ih := q.filt p
    rw [List.length_cons, selV_front]
    cases ep : p r with
    | true =>
      rw [List.filter_cons_of_pos ep]
      show MRows K H (r :: rs.filter p) ((if p r = true then [V.ref l] else []) ++ _)
      rw [ep, if_pos rfl]
      exact ⟨l, t, d, _, rfl, h1, h2, h3, ih⟩
    | false =>
      rw [List.filter_cons_of_neg (by rw [ep]; decide)]
      show MRows K H (rs.filter p) ((if p r = true then [V.ref l] else []) ++ _)
      rw [ep, if_neg (by decide), List.nil_append]
      exact ih
theorem hld_filt (hb ko : Bool) (g : Str → Bool) : (hldN hb ko).filter g ∈ ([[], ["a"], ["b"], ["b", "a"]] : List (List Str)) := by
  cases hb <;> cases ko <;> simp only [hldN, if_true, if_false, Bool.false_eq_true] <;> cases ea : g "a" <;> cases eb : g "b" <;> simp [List.filter_cons, ea, eb]
theorem hld_ok : ∀ l ∈ ([[], ["a"], ["b"], ["b", "a"]] : List (List Str)), pyOkL (l.map DV.str) = true ∧ SeqAt.shaped (.list (pyL (l.map DV.str))) = true := by decide +kernel
/-- a text that is taken -/
def selS (g : Str → Bool) : D5 → Option D5
  | .str s => if g s = true then some (.str s) else none
  | _ => none
theorem str_filt (g : Str → Bool) : ∀ l : List Str, (l.map (DV.str : Str → D5)).filterMap (selS g) = (l.filter g).map DV.str
  | [] => rfl
  | s :: l => by
    rw [List.map_cons, List.filterMap_cons]
    cases e : g s with
    | true => rw [show selS g (.str s) = some (.str s) from if_pos e, str_filt g l, List.filter_cons_of_pos e]; rfl
    | false => rw [show selS g (.str s) = none from if_neg (by rw [e]; decide), List.filter_cons_of_neg (by rw [e]; decide)]; exact str_filt g l
theorem filt_empty (g : Str → Bool) : ∀ l : List Str, (!((l.filter g).map (DV.str : Str → D5)).isEmpty) = l.any g
  | [] => rfl
  | s :: l => by
    cases e : g s with
    | true => rw [List.filter_cons_of_pos e, List.any_cons, e]; rfl
    | false => rw [List.filter_cons_of_neg (by rw [e]; decide), List.any_cons, e, filt_empty g l]; rfl
abbrev sLD : Stmt := tp 53
abbrev NLD : List Str := ["_law_m", "_law_tag_here", "_law_other", "_law_kind", "_law_kept", "_law_held", "_law_name", "_law_row_here"]
abbrev PLD : List Str := ["_law_m", "_law_tag_here"]
theorem scLD : FnScope NLD PLD (defScope sLD) := ⟨rfl, rfl, rfl, by decide +kernel, rfl, by decide +kernel, by decide +kernel⟩
def spLD (K : PySem.W.Frag) : Sp := fun vs H Q _ => ∃ (am tb rl : Addr) (hb : Bool) (rows : List Ro) (last : Int) (v : V), vs = [.ref am, v] ∧ MAt K H am tb rl hb rows last ∧ rows.length ≤ 1000 ∧ (∀ r ∈ rows, OkL r) ∧
  ((∃ d, Dv (O5 K) H d v ∧ lyk 5 d = true ∧ (∀ r ∈ rows, eqvL5 (kl (tagR r)) (kl d) = some false) ∧ ∀ (p : Addr) H', Same H H' → H' p = some (.tup [.str "gone", v]) → Q (.ref p) H') ∨
   ∃ t : Tg, Dv (O5 K) H (tgD t) v ∧ (rows.any (fun r => decide (TgR r = t)) = false → ∀ (p : Addr) H', Same H H' → H' p = some (.tup [.str "gone", v]) → Q (.ref p) H') ∧
    (rows.any (fun r => decide (TgR r = t)) = true → (∀ r, useR hb rows t = some r → ∀ (p u : Addr) H', Same H H' → H' p = some (.tup [.str "use", .ref u]) → H' u = some (.tup [.str "#", .str r.kind, .int (r.n : Int)]) → Q (.ref p) H') ∧
      (useR hb rows t = none → ∀ (p rl' : Addr) H', Ch [am] H H' → MAt K H' am tb rl' hb (dropR rows t) last → H rl' = none → H' p = some (.tup [.str "told", .non]) → Q (.ref p) H')))
section
variable {P : Program} {w : World} {K : PySem.W.Frag} {mg : Str → Option Value} {base : Heap}
theorem ok_ld {f fR fH : Addr} {fd fdR fdH : FuncData} (F : Fun K "_law_destroy" "_law_destroy" sLD f fd) (DR : Def P w K mg base 7 "_law_row" fR fdR ["_law_m", "_law_tag_here"] (spRow K)) (DH : Def P w K mg base 2 "_law_holds" fH fdH ["_law_value", "_law_tag_here"] (spLH K)) : FnOk P w K mg base CX0 8 f fd PLD (spLD K) := by
  refine F.ok scLD (fun vs H Q E h => ?_) (fun cdv A outer s H vs Q E hr h => ?_)
  · obtain ⟨am, tb, rl, hb, rows, last, v, rfl, _⟩ := h
    rfl
  · obtain ⟨am, tb, rl, hb, rows, last, v, rfl, hm, rl1, okl, q⟩ := h
    refine ⟨_, pss_cons (ps_if (pt_cmp (pc_isN (pe_call DR.ok (hr.mono (by decide)) rfl DR.g DR.kp DR.b .nil pass0 (pa_cons (pv 0) (pa_cons (pv 1) pa_nil))))) (pss_one (ps_ret (pe_tup (pa_cons pe_str (pa_cons (pv 1) pa_nil))))) pss_nil)
      (pss_cons (ps_for PassesOwn.never rfl (pi_list (pe_dget (hu_of hr) (pv 0) pe_str (fun _ _ => rfl))) (pg_unl rfl (pgs_cons (pg_name (i := 2) scLD.nd rfl (Or.inl rfl)) (pgs_cons (pg_name (i := 3) scLD.nd rfl (Or.inl rfl)) (pgs_cons (pg_name (i := 4) scLD.nd rfl (Or.inr rfl)) pgs_nil))))
        (pss_cons (ps_setLc (i := 5) (own := [("_law_name", 6)]) (g := gName 6) rfl scLD.nd rfl rfl (sw_true rfl rfl rfl (by decide +kernel)) (pi_tup (pe_dget (hu_of hr) (pe_dget (hu_of hr) (pe_dget (hu_of hr) (pv 0) pe_str (fun _ _ => rfl)) (pv 3) (fun _ _ => rfl)) pe_str (fun _ _ => rfl))) (blkOk_by (N := NLD) (sc := defScope sLD) (by decide +kernel)) (fun _ _ _ _ _ => pg_name (i := 6) scLD.nd rfl (Or.inl rfl))
            (fun _ _ _ _ _ => pts_one (pt_val (pe_call DH.ok (hr.mono (by decide)) rfl DH.g DH.kp DH.b .nil pass0 (pa_cons (pe_dget (hu_of hr) (pv 4) (pv 6) (fun _ _ => rfl)) (pa_cons (pv 1) pa_nil))))) (fun _ _ _ _ _ => pv 6))
        (pss_one (ps_if (PW.pt (pw_and (pt_cmpR (show OpR _ _ (rNe5 K) from op_ne5 (hu64 hr)) (pv 2) (pv 1) (nomark _)) (pw_and1 (pt_cmpR (show OpR _ _ (rNeD K) from op_neD (hu64 hr)) (pv 5) (pe_lst pa_nil) (nomark _))))) (pss_one (ps_ret (pe_tup (pa_cons pe_str (pa_cons (pv 2) pa_nil))))) pss_nil))))
      (pss_cons (ps_dput (hu_of hr) (pv 0) pe_str (pe_lc (own := [("_law_row_here", 7)]) (g := gName 7) rfl scLD.nd (pi_list (pe_dget (hu_of hr) (pv 0) pe_str (fun _ _ => rfl))) (blkOk_by (N := NLD) (sc := defScope sLD) (by decide +kernel)) (fun _ _ _ _ _ => pg_name (i := 7) scLD.nd rfl (Or.inl rfl))
          (fun _ _ _ _ _ => pts_one (pt_cmpR (show OpR _ _ (rNe5 K) from op_ne5 (hu64 hr)) (pe_ix (show IxR _ (rIxL K) from ix_list) (pv 7) pe_int (fun _ _ => rfl)) (pv 1) (nomark _))) (fun _ _ _ _ _ => pv 7)) (by rfl))
      (pss_one (ps_ret (pe_tup (pa_cons pe_str (pa_cons pe_non pa_nil))))))), ?_⟩
    have P := kps5 (K := K)
    have goneR : ∀ (Q2 : ∀ (p : Addr) H', Same H H' → H' p = some (.tup [.str "gone", v]) → Q (.ref p) H') (H2 : Hp), Same H H2 → tRet (tTup (tCons (tC (.str "gone")) (tCons (tVar 1) tNil))) { nx := fun _ H' => Q .non H', rt := Q } [some (.ref am), some v, none, none, none, none, none, none] H2 := fun Q2 H2 s2 =>
      ⟨_, rfl, by show 2 ≤ sizeLine; decide, fun p np => Q2 p _ (Same.upd s2 np) upd_same⟩
    rcases q with ⟨d, hd, ok, no, q1⟩ | ⟨t, ht, q1, q2⟩
    · refine ⟨_, rfl, _, rfl, am, tb, rl, hb, rows, last, v, d, fun _ => false, rfl, hm, rl1, hd, ok, no, fun e => ?_, fun _ H2 s2 => ⟨_, rfl, Vl.iteC rfl (goneR q1 H2 s2)⟩⟩
      rw [List.any_eq_true] at e
      obtain ⟨_, _, z⟩ := e
      cases z
    have okw := fun r hr => (okl r hr).w hb
    have okk : ∀ r ∈ rows, r.kind = kname (koR r) := fun r hr => (okw r hr).kd
    have tlyk : lyk 5 (tgD t) = true := tag_lyk
    refine ⟨_, rfl, _, rfl, am, tb, rl, hb, rows, last, v, tgD t, fun r => decide (TgR r = t), rfl, hm, rl1, ht, tlyk, fun r hr' => ?_, fun e l H2 s2 => ⟨_, rfl, Vl.iteN rfl ?_⟩, fun e H2 s2 => ⟨_, rfl, Vl.iteC rfl (goneR (q1 e) H2 s2)⟩⟩
    · have := key_tag_eqv (koR r) t.1 r.n t.2
      rw [← okk r hr'] at this
      exact this
    obtain ⟨u2, u3⟩ := q2 e
    have hm2 := hm.same s2
    have ht2 := P.dv s2 ht
    obtain ⟨vs, erl, mr⟩ := hm2.r
    have lvs := mr.len
    -- the walk
    refine (ep_rows (σ := [some (.ref am), some v, none, none, none, none, none, none]) (i := 0) hm2 rfl).run fun rv H3 s3 erv => ?_
    subst erv
    have hm3 := hm2.same s3
    have mr3 := mr.same s3
    have ht3 := P.dv s3 ht2
    have erl3 := s3 _ _ erl
    have s03 := Same.trans s2 s3
    refine ⟨rl, rfl, ⟨_, SqL.of erl3⟩, ?_⟩
    refine for_it (walk_list (K := K) (xs := vs)) (fun i σ' H' => (∃ w2 w3 w4 w5 w6, σ' = [some (.ref am), some v, w2, w3, w4, w5, w6, none]) ∧ Same H3 H' ∧ ∀ r ∈ rows.take i, useB hb t r = false) ⟨⟨_, _, _, _, _, rfl⟩, Same.refl _, fun r hr => by simp at hr⟩ (fun i σ' H' _ p => SqL.of (p.2.1 _ _ erl3)) (fun i x σ' H4 H4' hi p y => ?_) (fun σ' H9 p => ?_)
    · obtain ⟨⟨w2, w3, w4, w5, w6, rfl⟩, s4, nu⟩ := p
      obtain ⟨rfl, ex⟩ := y
      have hm4 := hm3.same s4
      have ht4 := P.dv s4 ht3
      obtain ⟨r, l, tt, d, er, rfl, hl, htt, hd⟩ := (mr3.same s4).get ex
      have mr' := List.mem_of_getElem? er
      have hk := okk r mr'
      have okl' := okl r mr'
      rw [hk] at hl htt
      refine ⟨l, [.ref tt, .str (kname (koR r)), .ref d], rfl, SqL.of hl, rfl, _, _, rfl, _, _, rfl, _, _, rfl, rfl, ?_⟩
      show tSeq _ _ _ [some (.ref am), some v, some (.ref tt), some (.str (kname (koR r))), some (.ref d), w5, w6, none] H4'
      have hl4 : ED (O5 K) (tDGet (tDGet (tDGet (tVar 0) (tC (.str "tables"))) (tVar 3)) (tC (.str "holds"))) [some (.ref am), some v, some (.ref tt), some (.str (kname (koR r))), some (.ref d), w5, w6, none] H4' (.tup ((hldN hb (koR r)).map .str)) := ed_get (i := 4) (ed_tab (ko := koR r) hm4 rfl rfl) ep_str rfl rfl
      have gE : ∃ g : Str → Bool, (∀ s ∈ hldN hb (koR r), ∃ x : Vn, valR r s = vD x ∧ g s = (vT x).any fun z => decide (z = t)) ∧ useB hb t r = (!decide (TgR r = t) && (hldN hb (koR r)).any g) := by
        obtain ⟨ko, la, a, b, c, rfl, ha, hb', hc⟩ := okl'
        refine ⟨fun s => (vT (if s = ("a" : Str) then a else b)).any fun z => decide (z = t), fun s _ => ⟨if s = ("a" : Str) then a else b, ?_, rfl⟩, ?_⟩
        · by_cases h : s = ("a" : Str)
          · rw [if_pos h]; exact if_pos h
          · rw [if_neg h]; exact if_neg h
        · unfold useB
          rw [tgs_new ha hb', koR_new, List.any_flatMap]
      obtain ⟨g, gv, eu⟩ := gE
      have lc := ed_lcD (K := K) (σ := [some (.ref am), some v, some (.ref tt), some (.str (kname (koR r))), some (.ref d), w5, w6, none]) (tt := tTest (tCall (spLH K) [] E0 (tCons (tDGet (tVar 4) (tVar 6)) (tCons (tVar 1) tNil)))) (te := tVar 6) (i := 6) (f := selS g) hl4
        (by cases hb <;> cases (koR r) <;> simp [hldN]) (fun y hy d' e => by
          obtain ⟨s, _, rfl⟩ := List.mem_map.mp hy
          cases eg : g s with
          | true => rw [show selS g (.str s) = some (.str s) from if_pos eg] at e; cases e; rfl
          | false => rw [show selS g (.str s) = none from if_neg (by rw [eg]; decide)] at e; cases e) (fun u => rfl) fun y u H5 N M hy s5 hu q1' q2' => by
          obtain ⟨s, hs, rfl⟩ := List.mem_map.mp hy
          cases (show u = .str s from hu)
          obtain ⟨x, ex', eg⟩ := gv s hs
          obtain ⟨ks, ls, j, em, e1, e2⟩ := row_ix (r := r) hs
          have get : ED (O5 K) (tDGet (tVar 4) (tVar 6)) ((wipe [some (.ref am), some v, some (.ref tt), some (.str (kname (koR r))), some (.ref d), w5, w6, none] [6]).set 6 (some (.str s))) H5 (valR r s) := ed_get (i := j) (ed_pv P rfl (em ▸ P.dv s5 hd)) (ep_v rfl) e1 e2
          rw [ex'] at get
          refine get.run fun u' H6 s6 hu' => ⟨_, rfl, u', v, x, t, rfl, hu', P.dv (Same.trans s5 s6) ht4, fun H7 s7 => ⟨_, rfl, ?_⟩⟩
          rw [← eg]
          have s57 := Same.trans s6 s7
          cases e : g s with
          | true => exact Vl.iteC rfl ⟨_, rfl, q1' _ (if_pos e) _ _ s57 rfl⟩
          | false => exact Vl.iteN rfl (q2' (if_neg (by rw [e]; decide)) _ s57)
      rw [str_filt g] at lc
      refine lc.seq fun hv H5 s5 hhv => ?_
      show tIfS _ _ _ _ [some (.ref am), some v, some (.ref tt), some (.str (kname (koR r))), some (.ref d), some hv, w6, none] H5
      have d1 : Dv (O5 K) H5 (tgD (koR r, r.n)) (.ref tt) := ⟨tt, _, rfl, .inl (.inl (s5 _ _ htt)), _, _, rfl, rfl, _, _, rfl, rfl, _, _, rfl, rfl, rfl⟩
      have t1 := et_ne5 (K := K) (σ := [some (.ref am), some v, some (.ref tt), some (.str (kname (koR r))), some (.ref d), some hv, w6, none]) (H := H5) (ta := tVar 2) (tb := tVar 1) (ed_pv P rfl d1) (ed_pv P rfl (P.dv s5 ht4)) (tag_eqv (a := koR r) (b := t.1) (m := r.n) (n := t.2)) (fun j h1 h2 => tag_kn h1) (by simp [dpL, dp])
      obtain ⟨o1, o2⟩ := hld_ok _ (hld_filt hb (koR r) g)
      have t2 := et_neL (K := K) (σ := [some (.ref am), some v, some (.ref tt), some (.str (kname (koR r))), some (.ref d), some hv, w6, none]) (H := H5) (ta := tVar 5) (ed_pv P rfl hhv) o1 o2
      rw [filt_empty] at t2
      refine (et_andI t1 fun _ => t2).run fun H6 s6 => ?_
      have s36 := Same.trans s4 (Same.trans s5 s6)
      rw [show (!decide (((koR r, r.n) : Tg) = (t.1, t.2)) && (hldN hb (koR r)).any g) = useB hb t r from eu.symm]
      cases eb : useB hb t r with
      | true =>
        refine Vl.iteC rfl ⟨_, rfl, by show 2 ≤ sizeLine; decide, fun p np => ?_⟩
        refine u2 r (find_fst er nu eb) p tt _ (Same.upd (Same.trans s03 s36) np) upd_same ?_
        rw [hk]
        exact sm_upd np _ _ (s6 _ _ (s5 _ _ htt))
      | false =>
        refine Vl.iteN rfl ⟨⟨_, _, _, _, _, rfl⟩, s36, fun r' hr' => ?_⟩
        rw [List.take_succ, er] at hr'
        rcases List.mem_append.mp hr' with h | h
        · exact nu r' h
        · have : r' = r := by simpa using h
          rw [this]
          exact eb
    · obtain ⟨⟨w2, w3, w4, w5, w6, rfl⟩, s4, nu⟩ := p
      rw [lvs, List.take_length] at nu
      have no : useR hb rows t = none := by
        unfold useR
        rw [List.find?_eq_none]
        intro r hr
        rw [nu r hr]
        simp
      have hm4 := hm3.same s4
      have mr4 := mr3.same s4
      have ht4 := P.dv s4 ht3
      have erl4 := s4 _ _ erl3
      have cls : ∀ {j : Nat} {x : V}, vs[j]? = some x → x = vs.getD j .non := fun {j x} e => by rw [List.getD_eq_getElem?_getD, e]; rfl
      have lc := ep_lcLn (K := K) (σ := [some (.ref am), some v, w2, w3, w4, w5, w6, none]) (H := H9) (i := 7) (xs := vs) (p := fun j => (rows[j]?.map fun r => !decide (TgR r = t)).getD false) (out := fun j => vs.getD j .non) (tt := tTest (tOp (rNe5 K) (tOp (rIxL K) (tVar 7) (tC (.int 0))) (tVar 1))) (te := tVar 7)
        ((ep_rows (i := 0) hm4 rfl).imp fun v H2 s e => ⟨rl, e, SqL.of (s _ _ erl4)⟩) (by omega) (fun u => rfl) (fun j x H5 ex s5 => by
          obtain ⟨r, l, tt, d', er, rfl, hl, htt, _⟩ := (mr4.same s5).get ex
          have hk := okk r (List.mem_of_getElem? er)
          rw [hk] at htt
          rw [er]
          show ET _ _ _ (!decide (TgR r = t))
          exact et_ne5 (b := decide (((koR r, r.n) : Tg) = (t.1, t.2))) (l := [.str "#", .str (kname (koR r)), .int (r.n : Int)]) (m := [.str "#", .str (kname t.1), .int (t.2 : Int)]) (fun H6 s6 Q6 q6 => ⟨_, rfl, l, _, _, .ref tt, rfl, rfl, SqL.of (s6 _ _ hl), atI_nat (j := 0) rfl, q6 _ _ (Same.refl _) ⟨tt, _, rfl, .inl (.inl (s6 _ _ htt)), _, _, rfl, rfl, _, _, rfl, rfl, _, _, rfl, rfl, rfl⟩⟩)
            (ed_pv P rfl (P.dv s5 ht4)) tag_eqv (fun j h1 h2 => tag_kn h1) (by simp [dpL, dp]))
        (fun j x H5 ex s5 _ => ep_pv (v := x) rfl fun _ _ => cls ex)
      refine lc.put fun nv H10 s10 ⟨D, ev, nD9, eD⟩ => ?_
      subst ev
      have s310 := Same.trans s4 s10
      have hm10 := hm4.same s10
      have mr10 := (mr4.same s10).filt fun r => !decide (TgR r = t)
      refine ⟨_, rfl, am, _, rfl, DPut.k (k := .inr "rows") hm10.m (by show 3 < sizeLine; decide), ?_⟩
      rw [mkv2p]
      have c10 : Ch [am] H10 (upd H10 am (.dK (mkv tb D last))) := Ch.upd (by simp)
      have alA : ∀ a ∈ [am], ∀ o, H10 a = some o → AlR o := fun a m o e => by
        rw [List.mem_singleton.mp m, hm10.m] at e
        cases e
        exact ⟨alien_dk fun ks hk q => by
          have h := congrArg List.length q
          have h2 : ∀ ks ∈ Kmaps, ks.length ≠ 3 := by decide +kernel
          simp at h
          exact h2 ks hk h.symm, fun t k d z => nomatch z⟩
      have ktb : kpt [["k", "other"], tabK] (tabsD hb) = true := by
        have d1 : decide (tabK ∈ ([["k", "other"], tabK] : List (List Str))) = true := by decide +kernel
        have d2 : decide ((["k", "other"] : List Str) ∈ ([["k", "other"], tabK] : List (List Str))) = true := by decide +kernel
        cases hb <;> simp only [tabsD, tabD, kpt, kptL, d1, d2, gvn, mdn, hln, hldN, rwG, rId, rMk, Bool.and_true] <;> rfl
      have nDa : D ≠ am := fun e => by rw [e, hm10.m] at eD; cases eD
      have nD0 : H D = none := by
        cases e : H D with
        | none => rfl
        | some o => rw [s4 _ _ (s03 _ _ e)] at nD9; cases nD9
      refine ⟨by show 2 ≤ sizeLine; decide, fun p np => ?_⟩
      refine u3 no p D _ (Ch.trans (Ch.same (Same.trans s03 s310)) (Ch.trans c10 (Ch.same (sm_upd np)))) (MAt.same ⟨upd_same, Dv.ch (Ks := [["k", "other"], tabK]) c10 (fun a m o e => ?_) _ _ ktb hm10.t, _, (upd_ne nDa).trans eD, mr10.ch c10 alA (fun r hr => ((okw r (List.mem_filter.mp hr).1).ok))⟩ (sm_upd np)) nD0 upd_same
      rw [List.mem_singleton.mp m, hm10.m] at e
      cases e
      refine alien_dk fun ks' hk' q => ?_
      have := congrArg List.length q
      simp only [List.mem_cons, List.not_mem_nil, or_false] at hk'
      rcases hk' with rfl | rfl <;> simp at this
end
end Kd

set_option Elab.async false
set_option linter.all false
set_option maxRecDepth 100000
set_option maxHeartbeats 4000000
/-! _law_said -/
namespace Kd
open PySem PySem.Spec PyProof.Rows L2 Dq Vl Pf Ed ClX LamX Clz
abbrev sSaid : Stmt := tp 54
abbrev NSaid : List Str := ["_law_ask", "e"]
theorem scSaid : FnScope NSaid ["_law_ask"] (defScope sSaid) := ⟨rfl, rfl, rfl, by decide +kernel, rfl, by decide +kernel, by decide +kernel⟩
/-- what the clauses make of an error -/
def wishE (CG CU : Addr) (Q : VK) : XK := fun cls d H => ∃ (dd p : Addr) (v : V), d = some dd ∧ H dd = some (.xd [("tag", v), ("told", .ref p)]) ∧
  ((cls = .ref CG ∧ ∀ t, H t = none → Q (.ref t) (upd H t (.tup [.str "gone", v]))) ∨ (cls = .ref CU ∧ ∀ t, H t = none → Q (.ref t) (upd H t (.tup [.str "use", v]))))
def TSaid (CG CU : Addr) : (XK → Hp → VK → Prop) → Hp → VK → Prop := fun tl H Q => tl (wishE CG CU Q) H fun v H1 => 2 ≤ sizeLine ∧ ∀ t, H1 t = none → Q (.ref t) (upd H1 t (.tup [.str "told", v]))
/-- the three classes, caught -/
structure TxtC (K : PySem.W.Frag) (mg : Str → Option Value) (CT CG CU : Addr) : Prop where
  mT : mg "Taken" = some (.ref CT)
  mG : mg "Gone" = some (.ref CG)
  mU : mg "InUse" = some (.ref CU)
  xT : XfC K CT
  xG : XfC K CG
  xU : XfC K CU
  nT : PySem.W.findIn K (.ref CT) "tag" = some none
  nG : PySem.W.findIn K (.ref CG) "tag" = some none
  nU : PySem.W.findIn K (.ref CU) "tag" = some none
  GT : PySem.W.exmOne K (.ref CG) (.ref CT) = some false
  UT : PySem.W.exmOne K (.ref CU) (.ref CT) = some false
  GG : PySem.W.exmOne K (.ref CG) (.ref CG) = some true
  UG : PySem.W.exmOne K (.ref CU) (.ref CG) = some false
  UU : PySem.W.exmOne K (.ref CU) (.ref CU) = some true
theorem said_gives {X : Cx} {CT CG CU g : Addr} {cdg : Value} {q : Str} (T : TxtC X.K X.mg CT CG CU) : GivesTo X NSaid "_law_said" (defScope sSaid) g cdg (defBody sSaid) "_law_ask" q (TSaid CG CU) := by
  intro f c' s H Q tl act hc h
  refine ⟨_, pss_one (ps_try_cl (X := (cxOf C8.CX0 X.prog X.w X.K X.mg X.base NSaid "_law_said" (defScope sSaid) g cdg X.A X.stack s H C8.E0).nox)
      rfl rfl (fun W pn xe tk _ => pss_one (ps_ret (pe_tup (pa_cons pe_str (pa_cons (te := fun σZ HZ Q => ∃ Ech : XK, (∀ cls d σ' H', Ech cls d H' → W cls d σ' H') ∧ σZ[0]? = some (some (.ref f)) ∧ HZ c' = some (CodeO c' q) ∧ tl Ech HZ Q) ⟨fun pins s' σ H' Q I ⟨Ech, hW, h1⟩ => (act W pn xe Ech _ _ tk hW).run pins s' σ H' Q I h1⟩ pa_nil)))))
      (cl_as (i := 1) (c := .ref CT) rfl rfl scSaid.nd rfl rfl ⟨rfl, by decide, .inl T.mT⟩ (fun a oe cls d pn hz hf => pss_one (ps_ret (pe_tup (pa_cons pe_str (pa_cons (pe_xf T.xT T.nT hz hf (pv 1)) pa_nil)))))
      (cl_as (i := 1) (c := .ref CG) rfl rfl scSaid.nd rfl rfl ⟨rfl, by decide, .inl T.mG⟩ (fun a oe cls d pn hz hf => pss_one (ps_ret (pe_tup (pa_cons pe_str (pa_cons (pe_xf T.xG T.nG hz hf (pv 1)) pa_nil)))))
      (cl_as (i := 1) (c := .ref CU) rfl rfl scSaid.nd rfl rfl ⟨rfl, by decide, .inl T.mU⟩ (fun a oe cls d pn hz hf => pss_one (ps_ret (pe_tup (pa_cons pe_str (pa_cons (pe_xf T.xU T.nU hz hf (pv 1)) pa_nil)))))
      (cl_end rfl rfl L2.takes0))))), ?_⟩
  · refine ⟨wishE CG CU Q, fun cls d σ' H' hw hl a na => ?_, rfl, hc, ?_⟩
    · have h1 : ∀ a, (σ'.set 1 (some (V.ref a)))[1]? = some (some (V.ref a)) := fun a => by
        rw [List.getElem?_set_self (by rw [hl]; exact (by decide : 1 < 2))]
      obtain ⟨dd, p, v, rfl, e1, ⟨rfl, e2⟩ | ⟨rfl, e2⟩⟩ := hw
      · refine ⟨false, T.GT, fun z => (nomatch z), fun _ => ⟨true, T.GG, fun _ => ?_, fun z => nomatch z⟩⟩
        exact ⟨_, h1 a, rfl, rfl, dd, _, v, rfl, e1, lk_hd, by show 2 ≤ sizeLine; decide, e2⟩
      · refine ⟨false, T.UT, fun z => (nomatch z), fun _ => ⟨false, T.UG, fun z => (nomatch z), fun _ => ⟨true, T.UU, fun _ => ?_, fun z => nomatch z⟩⟩⟩
        exact ⟨_, h1 a, rfl, rfl, dd, _, v, rfl, e1, lk_hd, by show 2 ≤ sizeLine; decide, e2⟩
    · exact h
end Kd

set_option Elab.async false
set_option linter.all false
set_option maxRecDepth 100000
set_option maxHeartbeats 4000000
/-! _law_alike -/
namespace Ed
open PySem PySem.Spec PyProof.Rows L2 Dq Vl Kd
variable {K : PySem.W.Frag} {σ : L2.St} {H : Hp} {te ta tb : TE} {tt tu : TT}
theorem et_neS {i j : Str} (h : EP ta σ H fun v _ => v = .str i) (h2 : EP tb σ H fun v _ => v = .str j) : ET (tTest (tOp rNe ta tb)) σ H (!decide (i = j)) := fun H1 s Q k =>
  h H1 s _ fun v H2 s2 e1 => h2 H2 (Same.trans s s2) _ fun u H3 s3 e2 => by
    subst e1 e2
    exact ⟨rfl, _, rfl, by
      have := k H3 (Same.trans s2 s3)
      rwa [show decide (V.str i = V.str j) = decide (i = j) from decide_eq_decide.mpr ⟨fun e => V.str.inj e, fun e => by rw [e]⟩]⟩
/-- t[i] of a thing told -/
theorem ed_thing {rows : List Ro} {kvs : List (List Key × V)} {f : Ro → D5} {sd b : Addr} {k : Str} {n : Nat} {r : Ro} (h2 : EP ta σ H fun v H => v = .ref sd ∧ Rd H sd (.dT kvs)) (h : EP tb σ H fun v H => v = .ref b ∧ H b = some (.tup [.str "#", .str k, .int (n : Int)])) (rw' : RwF K H f rows kvs) (e : findR rows k n = some r) :
    ED (O5 K) (tDGet ta tb) σ H (f r) := fun H1 s1 Q q => h2 H1 s1 _ fun v H2 s2 ⟨ev, es⟩ => h H2 (Same.trans s1 s2) _ fun y H3 s3 ⟨ey, eb⟩ => by
  subst ev ey
  obtain ⟨_, g2⟩ := rwf_get k n rw'
  obtain ⟨v, ev, hv⟩ := g2 r e
  exact ⟨sd, v, rfl, .inr ⟨kvs, keyT k n, b, rd_same s3 es, rfl, eb, ev.symm⟩, q v H3 (Same.trans s2 s3) ((kps5 (K := K)).dv (Same.trans s1 (Same.trans s2 s3)) hv)⟩
theorem keys_dv {f : Ro → D5} : ∀ {rows : List Ro} {kvs : List (List Key × V)} {bs : List Addr}, RwF K H f rows kvs → IsKeys H kvs bs → DvL (O5 K) H (rows.map tagR) (bs.map V.ref)
  | [], _, _, h, p => by
    cases h
    cases p
    rfl
  | r :: rs, _, _, ⟨v, kvs, e, h, q⟩, p => by
    subst e
    cases p with
    | cons hb t => exact ⟨_, _, rfl, ⟨_, _, rfl, .inl (.inl hb), _, _, rfl, rfl, _, _, rfl, rfl, _, _, rfl, rfl, rfl⟩, keys_dv q t⟩
/-- list(d) of a dict by Tags -/
theorem ed_listTh {rows : List Ro} {kvs : List (List Key × V)} {f : Ro → D5} {sd : Addr} (h : EP ta σ H fun v H => v = .ref sd ∧ Rd H sd (.dT kvs)) (rw' : RwF K H f rows kvs) :
    ED (O5 K) (tCB (fun xs H Q => ∃ d kvs, xs = [V.ref d] ∧ Rd H d (.dT kvs) ∧ ∀ p bs, H p = none → IsKeys H kvs bs → Q (.ref p) (upd H p (.lst (bs.map V.ref)))) (tCons ta tNil)) σ H (.lst (rows.map tagR)) := fun H1 s1 Q q => h H1 s1 _ fun v H2 s2 ⟨ev, es⟩ =>
  ⟨sd, kvs, by rw [ev], es, fun p bs np hk => q _ _ (Same.upd s2 np) ⟨p, _, rfl, upd_same, (kps5 (K := K)).dvl (sm_upd np) (keys_dv (rw'.same (Same.trans s1 s2)) hk)⟩⟩
end Ed
namespace Kd
open PySem PySem.Spec PyProof.Rows L2 Dq Vl Pf Ed ClX
theorem dpL_le {n : Nat} : ∀ {l : List D5}, (∀ x ∈ l, dp x ≤ n) → dpL l ≤ n
  | [], _ => by rw [dpL]; exact Nat.zero_le _
  | x :: l, h => by
    rw [dpL]
    exact Nat.max_le.mpr ⟨h x List.mem_cons_self, dpL_le fun y hy => h y (List.mem_cons_of_mem _ hy)⟩
theorem plnL_all : ∀ {l : List D5}, (∀ x ∈ l, pln x = true) → plnL l = true
  | [], _ => by simp [plnL]
  | x :: l, h => by rw [plnL, h x List.mem_cons_self, plnL_all fun y hy => h y (List.mem_cons_of_mem _ hy)]; rfl
theorem kl_pln {d : D5} (h : pln (keyD d) = true) : plnL (kl d) = true := by
  rw [keyD_tup, pln] at h
  exact h
/-- a tuple of Tags -/
theorem tags_lyk {rows : List Ro} (h : rows.length ≤ 1000) : lyk 5 (.tup (rows.map tagR)) = true := by
  have e1 : ∀ r : Ro, lyk 4 (tagR r) = true := fun r => by simp [lyk, tagR, tagOf, nolL, nol]
  have e2 : nolL (rows.map tagR) = true := nolL_all fun d hd => by obtain ⟨r, _, rfl⟩ := List.mem_map.mp hd; rfl
  simp only [lyk, Bool.and_eq_true, decide_eq_true_eq, List.length_map]
  refine ⟨List.all_eq_true.mpr fun d hd => ?_, e2, h⟩
  obtain ⟨r, _, rfl⟩ := List.mem_map.mp hd
  exact e1 r
theorem tags_pln {rows : List Ro} : plnL (kl (.tup (rows.map tagR))) = true ∧ dpL (kl (.tup (rows.map tagR))) ≤ 30 := by
  have e : kl (.tup (rows.map tagR)) = .str "tuple" :: (rows.map tagR).map keyD := by
    show (match keyD (.tup (rows.map tagR)) with | .tup l => l | _ => []) = _
    rw [keyD, keyL_map]
  rw [e]
  have t : ∀ r : Ro, pln (keyD (tagR r)) = true ∧ dp (keyD (tagR r)) ≤ 30 := fun r => by
    rw [keyD_tup, show kl (tagR r) = _ from kl_tag _ _]
    simp [pln, plnL, dp, dpL]
  refine ⟨?_, ?_⟩
  · rw [plnL, plnL_all fun d hd => ?_]
    · rfl
    · obtain ⟨x, hx, rfl⟩ := List.mem_map.mp hd
      obtain ⟨r, _, rfl⟩ := List.mem_map.mp hx
      exact (t r).1
  · refine dpL_le fun d hd => ?_
    rcases List.mem_cons.mp hd with rfl | hd
    · exact Nat.zero_le _
    · obtain ⟨x, hx, rfl⟩ := List.mem_map.mp hd
      obtain ⟨r, _, rfl⟩ := List.mem_map.mp hx
      exact (t r).2
theorem mapR_nol {r : Ro} (o : OkR r) : nol (mapR r) = true := lay_nol 5 _ (mapR_lay o)
theorem mapR_lyk {r : Ro} (o : OkR r) : lyk 5 (mapR r) = true := by
  obtain ⟨_, la, _, na, _⟩ := okV_parts o.a
  obtain ⟨_, lb, _, nb, _⟩ := okV_parts o.b
  obtain ⟨_, lc, _, nc, _⟩ := okV_parts o.c
  have s1 : sortedS (["a", "b", "c", "id"] : List Str) = true := by decide +kernel
  have s2 : sortedS (["a", "b", "c", "id", "m"] : List Str) = true := by decide +kernel
  unfold mapR
  cases r.mr with
  | none => simp [lyk, la, lb, lc, nolL, na, nb, nc, s1, tagR, tagOf, nol]
  | some m => simp [lyk, la, lb, lc, nolL, na, nb, nc, s2, tagR, tagOf, nol]
theorem mapR_kpln {r : Ro} (o : OkR r) : plnL (kl (mapR r)) = true ∧ dpL (kl (mapR r)) ≤ 30 := by
  refine ⟨kl_pln (key_pln _ (mapR_nol o) (mapR_kpt o)), ?_⟩
  have da := (okV_parts o.a).2.2.2.2
  have db := (okV_parts o.b).2.2.2.2
  have dc := (okV_parts o.c).2.2.2.2
  have t : ∀ k n, dp (keyD (tagOf k n)) ≤ 8 := fun k n => by rw [keyD_tup, kl_tag]; simp [dp, dpL]
  have g : ∀ (ks : List Str) (l : List D5), (∀ x ∈ l, dp (keyD x) ≤ 8) → dpL (keyM ks l) ≤ 20 := fun ks l => by
    induction l generalizing ks with
    | nil => intro _; rw [keyM, dpL]; exact Nat.zero_le _
    | cons x l ih =>
      intro h
      have h1 := h x List.mem_cons_self
      have h2 := ih ks.tail fun y hy => h y (List.mem_cons_of_mem _ hy)
      rw [keyM, dpL]
      refine Nat.max_le.mpr ⟨?_, h2⟩
      simp only [dp, dpL]
      omega
  have e : ∀ ks l, kl (.map ks l) = .str "map" :: keyM ks l := fun ks l => by
    show (match keyD (.map ks l) with | .tup l => l | _ => []) = _
    rw [keyD]
  have fin : ∀ ks l, (∀ x ∈ l, dp (keyD x) ≤ 8) → dpL (kl (.map ks l)) ≤ 30 := fun ks l h => by
    rw [e, dpL]
    exact Nat.max_le.mpr ⟨Nat.zero_le _, Nat.le_trans (g ks l h) (by omega)⟩
  unfold mapR
  cases r.mr with
  | none =>
    refine fin _ _ fun x hx => ?_
    simp only [List.mem_cons, List.not_mem_nil, or_false] at hx
    rcases hx with rfl | rfl | rfl | rfl
    · exact da
    · exact db
    · exact dc
    · exact t _ _
  | some m =>
    refine fin _ _ fun x hx => ?_
    simp only [List.mem_cons, List.not_mem_nil, or_false] at hx
    rcases hx with rfl | rfl | rfl | rfl | rfl
    · exact da
    · exact db
    · exact dc
    · exact t _ _
    · exact t _ _
abbrev sAl : Stmt := tp 55
abbrev NAl : List Str := ["_law_world", "_law_m", "_law_things", "_law_lines", "_law_row_here", "_law_tag_here", "_law_kind", "_law_kept"]
abbrev PAl : List Str := ["_law_world", "_law_m"]
theorem scAl : FnScope NAl PAl (defScope sAl) := ⟨rfl, rfl, rfl, by decide +kernel, rfl, by decide +kernel, by decide +kernel⟩
def spAl (K : PySem.W.Frag) (CW : Addr) : Sp := fun vs H Q _ => ∃ (aw kd sd am tb rl : Addr) (hb : Bool) (rows : List Ro) (last last' : Int), vs = [.ref aw, .ref am] ∧ WAt K CW H aw kd sd rows last ∧ MAt K H am tb rl hb rows last' ∧ (∀ r ∈ rows, OkR r) ∧ (∀ r ∈ rows, r.kind = kname (koR r)) ∧ (rows.map TgR).Nodup ∧ rows.length ≤ 1000 ∧
  ∀ H', Same H H' → Q (.bl true) H'
structure TxtL (mg : Str → Option Value) : Prop where
  tuple : mg "tuple" = none
  list : mg "list" = none
section
variable {P : Program} {w : World} {K : PySem.W.Frag} {mg : Str → Option Value} {base : Heap} {CW : Addr}
theorem ok_al {f fK fT : Addr} {fd fdK fdT : FuncData} (F : Fun K "_law_alike" "_law_alike" sAl f fd) (TL : TxtL mg) (T : TxtW K mg CW) (MT : Meth K CW "things" fT) (GT : FnOk P w K mg base CX0 7 fT fdT ["self"] (spTh K CW)) (bT : Binds K fdT ["self"] []) (DK : Def P w K mg base 6 "_law_key" fK fdK ["_law_value"] (spKey K 5)) : FnOk P w K mg base CX0 8 f fd PAl (spAl K CW) := by
  refine F.ok scAl (fun vs H Q E h => ?_) (fun cdv A outer s H vs Q E hr h => ?_)
  · obtain ⟨aw, kd, sd, am, tb, rl, hb, rows, last, last', rfl, _⟩ := h
    rfl
  · obtain ⟨aw, kd, sd, am, tb, rl, hb, rows, last, last', rfl, hw, hm, oks, okk, nd, rl1, q⟩ := h
    refine ⟨_, pss_cons (ps_par (i := 2) (j := 3) (by rfl) scAl.nd rfl rfl (by decide) rfl rfl (pa_cons (pe_meth0 (pv 0) T.cl MT GT (hr.mono (by decide)) bT .nil pass0) (pa_cons (pe_dget (hu_of hr) (pv 1) pe_str (fun _ _ => rfl)) pa_nil)) (by rfl))
      (pss_cons (ps_if (pt_cmpR (op_ne5 (hu64 hr)) (pe_call DK.ok (hr.mono (by decide)) rfl DK.g DK.kp DK.b .nil pass0 (pa_cons (pe_callTy call_tuple_of (by rfl) TL.tuple (by decide +kernel) (pa_cons (pe_callTy (call_list_dT rfl) (by rfl) TL.list (by decide +kernel) (pa_cons (pv 2) pa_nil)) pa_nil)) pa_nil))
          (pe_call DK.ok (hr.mono (by decide)) rfl DK.g DK.kp DK.b .nil pass0 (pa_cons (pe_callTy call_tuple_of (by rfl) TL.tuple (by decide +kernel) (pa_cons (pe_lc (own := [("_law_row_here", 4)]) (g := gName 4) (tt := tYes) rfl scAl.nd (pi_list (pv 3)) (blkOk_by (N := NAl) (sc := defScope sAl) (by decide +kernel)) (fun _ _ _ _ _ => pg_name (i := 4) scAl.nd rfl (Or.inl rfl)) (fun _ _ _ _ _ => pts_nil) (fun _ _ _ _ _ => pe_ix (show IxR _ (rIxL K) from ix_list) (pv 4) pe_int (fun _ _ => rfl))) pa_nil)) pa_nil)) (nomark _)) (pss_one (ps_ret pe_bl)) pss_nil)
      (pss_cons (ps_for PassesOwn.never rfl (pi_list (pv 3)) (pg_unl rfl (pgs_cons (pg_name (i := 5) scAl.nd rfl (Or.inl rfl)) (pgs_cons (pg_name (i := 6) scAl.nd rfl (Or.inl rfl)) (pgs_cons (pg_name (i := 7) scAl.nd rfl (Or.inl rfl)) pgs_nil))))
        (pss_one (ps_if (PW.pt (pw_or (pt_cmpR op_ne (pe_ixT (pe_dget (hu_of hr) (pv 2) (pv 5) (fun _ _ => rfl)) pe_int (fun _ _ => rfl)) (pv 6) (nomark _)) (pw_or1 (pt_cmpR (op_ne5 (hu64 hr)) (pe_call DK.ok (hr.mono (by decide)) rfl DK.g DK.kp DK.b .nil pass0 (pa_cons (pe_ixT (pe_dget (hu_of hr) (pv 2) (pv 5) (fun _ _ => rfl)) pe_int (fun _ _ => rfl)) pa_nil))
          (pe_call DK.ok (hr.mono (by decide)) rfl DK.g DK.kp DK.b .nil pass0 (pa_cons (pv 7) pa_nil)) (nomark _))))) (pss_one (ps_ret pe_bl)) pss_nil)))
      (pss_one (ps_ret pe_bl)))), ?_⟩
    have P := kps5 (K := K)
    obtain ⟨dx, ew⟩ := hw.w
    have lkn : ∀ {nm : Str} {n : Int}, (nm == "_kinds") = false → (nm == "_standing") = false → (nm == "_last") = false → (wfl kd sd n).lookup nm = none := fun a b c => (lk_tl a).trans ((lk_tl b).trans ((lk_tl c).trans rfl))
    refine ⟨_, rfl, aw, dx, _, rfl, ew, lkn (by decide +kernel) (by decide +kernel) (by decide +kernel), aw, kd, sd, rows, last, rfl, hw, oks, okk, nd, rl1, fun D kvs H1 s1 eD rr => ?_⟩
    have hm1 := hm.same s1
    refine (ep_rows (σ := [some (.ref aw), some (.ref am), none, none, none, none, none, none]) (i := 1) hm1 rfl).run fun rv H2 s2 erv => ?_
    subst erv
    refine ⟨_, _, rfl, ?_⟩
    show tSeq _ _ _ [some (.ref aw), some (.ref am), some (.ref D), some (.ref rl), none, none, none, none] H2
    have hm2 := hm1.same s2
    have rr2 := rr.same s2
    have eD2 := s2 _ _ eD
    obtain ⟨vs, erl, mr⟩ := hm2.r
    have lvs := mr.len
    have s02 := Same.trans s1 s2
    have hkey : ∀ {σ : L2.St} {H' : Hp} {ta : TE} {d : D5}, ED (O5 K) ta σ H' d → lyk 5 d = true → ED (O5 K) (tCall (spKey K 5) [] E0 (tCons ta tNil)) σ H' (.tup (kl d)) := fun {σ H' ta d} h ok H3 s3 Q3 q3 =>
      h H3 s3 _ fun v H4 s4 hv => ⟨v, d, rfl, hv, ok, fun v' H5 s5 hd' => q3 v' H5 (Same.trans s4 s5) (by rw [← keyD_tup]; exact hd')⟩
    have e1 : ED (O5 K) _ [some (.ref aw), some (.ref am), some (.ref D), some (.ref rl), none, none, none, none] H2 (.tup (rows.map tagR)) := ed_tupL P (ed_listTh (ta := tVar 2) (ep_pv rfl fun H3 s3 => ⟨rfl, .inl (s3 _ _ eD2)⟩) rr2)
    have e2 : ED (O5 K) (tLc (iList K (tVar 3)) (gName 4) tYes (tOp (rIxL K) (tVar 4) (tC (.int 0))) [4]) [some (.ref aw), some (.ref am), some (.ref D), some (.ref rl), none, none, none, none] H2 (.lst (rows.map tagR)) := by
      have := ed_lcV (K := K) (te := tOp (rIxL K) (tVar 4) (tC (.int 0))) (i := 4) (vs := vs) (f := fun j => tagR (rows.getD j ⟨Str.empty, 0, .non, .non, .non, none⟩)) (ta := tVar 3) (σ := [some (.ref aw), some (.ref am), some (.ref D), some (.ref rl), none, none, none, none]) (H := H2) (ep_pv rfl fun H3 s3 => ⟨rl, rfl, s3 _ _ erl⟩) (by omega) (fun j hj => rfl) (fun u => rfl) fun j u H3 eu s3 => by
        obtain ⟨r, l, t, d', er, rfl, hl, ht, _⟩ := (mr.same s3).get eu
        rw [List.getD_eq_getElem?_getD, er]
        exact fun H4 s4 Q4 q4 => ⟨_, rfl, l, _, _, .ref t, rfl, rfl, SqL.of (s4 _ _ hl), atI_nat (j := 0) rfl, q4 _ _ (Same.refl _) ⟨t, _, rfl, .inl (.inl (s4 _ _ ht)), _, _, rfl, rfl, _, _, rfl, rfl, _, _, rfl, rfl, rfl⟩⟩
      have el : (List.range vs.length).map (fun j => tagR (rows.getD j ⟨Str.empty, 0, .non, .non, .non, none⟩)) = rows.map tagR := by
        rw [lvs]
        refine List.ext_getElem (by simp) fun j h1 h2 => ?_
        simp at h1 h2 ⊢
        rw [List.getElem?_eq_getElem h1]
        rfl
      rw [el] at this
      exact this
    refine (et_neP (hkey e1 (tags_lyk rl1)) (hkey (ed_tupL P e2) (tags_lyk rl1)) tags_pln.1 tags_pln.2).skip fun H3 s3 => ?_
    have s23 := Same.trans s02 s3
    have erl3 := s3 _ _ erl
    refine ⟨_, rfl, rl, rfl, ⟨_, SqL.of erl3⟩, ?_⟩
    refine for_it (walk_list (K := K) (xs := vs)) (fun i σ' H' => (∃ w4 w5 w6 w7, σ' = [some (.ref aw), some (.ref am), some (.ref D), some (.ref rl), w4, w5, w6, w7]) ∧ Same H3 H') ⟨⟨_, _, _, _, rfl⟩, Same.refl _⟩ (fun i σ' H' _ p => SqL.of (p.2 _ _ erl3)) (fun i x σ' H4 H4' hi p y => ?_) (fun σ' H9 p => ?_)
    · obtain ⟨⟨w4, w5, w6, w7, rfl⟩, s4⟩ := p
      obtain ⟨rfl, ex⟩ := y
      have s34 := Same.trans s3 s4
      obtain ⟨r, l, tt, d, er, rfl, hl, htt, hd⟩ := (mr.same s34).get ex
      have mr' := List.mem_of_getElem? er
      refine ⟨l, [.ref tt, .str r.kind, .ref d], rfl, SqL.of hl, rfl, _, _, rfl, _, _, rfl, _, _, rfl, rfl, ?_⟩
      show tIfS _ _ _ _ [some (.ref aw), some (.ref am), some (.ref D), some (.ref rl), w4, some (.ref tt), some (.str r.kind), some (.ref d)] H4'
      have fr : findR rows r.kind r.n = some r := by
        have := find_nd okk nd mr'
        rwa [← okk r mr'] at this
      have th : ED (O5 K) (tDGet (tVar 2) (tVar 5)) [some (.ref aw), some (.ref am), some (.ref D), some (.ref rl), w4, some (.ref tt), some (.str r.kind), some (.ref d)] H4' (fTh r) :=
        ed_thing (b := tt) (ep_pv rfl fun H5 s5 => ⟨rfl, .inl (s5 _ _ (s34 _ _ eD2))⟩) (ep_pv rfl fun H5 s5 => ⟨rfl, s5 _ _ htt⟩) (rr2.same s34) fr
      have okr := oks r mr'
      have t1 := et_neS (i := r.kind) (j := r.kind) (ed_ixT P (i := 0) (l := [.str r.kind, mapR r]) (d := .str r.kind) th rfl).ep (ep_v (i := 6) rfl)
      rw [decide_eq_true rfl] at t1
      have t2 := et_neP (K := K) (hkey (ed_ixT P (i := 1) (l := [.str r.kind, mapR r]) (d := mapR r) th rfl) (mapR_lyk okr)) (hkey (ed_pv P (i := 7) rfl hd) (mapR_lyk okr)) (mapR_kpln okr).1 (mapR_kpln okr).2
      exact (et_or t1 t2).skip1 fun H5 s5 => ⟨⟨_, _, _, _, rfl⟩, Same.trans s4 s5⟩
    · obtain ⟨_, s4⟩ := p
      exact q H9 (Same.trans s23 s4)
end
end Kd

set_option Elab.async false
set_option linter.all false
set_option maxRecDepth 100000
set_option maxHeartbeats 4000000
/-! _law_tables -/
namespace Ed
open PySem PySem.Spec PyProof.Rows L2 Dq Vl Kd
variable {K : PySem.W.Frag} {σ : L2.St} {H : Hp} {te ta tb : TE}
theorem merge_nd : ∀ (kvs acc : List (Key × V)), ((acc ++ kvs).map (·.1)).Nodup → mergeK acc kvs = acc ++ kvs
  | [], acc, _ => by rw [List.append_nil]; rfl
  | (k, v) :: kvs, acc, nd => by
    have nz : valV acc k = none := by
      unfold valV
      rw [Option.map_eq_none_iff, List.find?_eq_none]
      intro p hp
      simp only [decide_eq_true_eq]
      intro e
      rw [List.map_append] at nd
      exact (List.nodup_append.mp nd).2.2 p.1 (List.mem_map_of_mem (f := (·.1)) hp) k List.mem_cons_self e
    show mergeK (putK acc k v) kvs = _
    rw [putK_new v nz, merge_nd kvs (acc ++ [(k, v)]) (by rw [List.append_assoc]; exact nd), List.append_assoc]
    rfl
theorem tp_run : ∀ (l : List (Str × TE × D5)) (H : Hp), (∀ x ∈ l, ED (O5 K) x.2.1 σ H x.2.2) → ∀ Q : List (V × V) → Hp → Prop, (∀ us H2, Same H H2 → DvL (O5 K) H2 (l.map (·.2.2)) us → Q ((l.map fun x => V.str x.1).zip us) H2) →
    tPairs (l.map fun x => (tC (.str x.1), x.2.1)) σ H Q
  | [], H, _, Q, k => k [] H (Same.refl _) rfl
  | x :: l, H, h, Q, k => (h x List.mem_cons_self).run fun v H2 s2 hv => tp_run l H2 (fun y hy => (h y (List.mem_cons_of_mem _ hy)).mono s2) _ fun us H3 s3 hu => k (v :: us) H3 (Same.trans s2 s3) ⟨v, us, rfl, (kps5 (K := K)).dv s3 hv, hu⟩
/-- {'a': .., 'b': ..} of kept data -/
theorem ep_dispN {Ks : List (List Str)} (nk : [] ∉ Ks) (l : List (Str × TE × D5)) (h : ∀ x ∈ l, ED (O5 K) x.2.1 σ H x.2.2) (kp : kptL Ks (l.map (·.2.2)) = true) (nd : (l.map (·.1)).Nodup) (h15 : l.length ≤ 15) :
    EP (tDisp (l.map fun x => (tC (.str x.1), x.2.1))) σ H fun v H2 => Dv (O5 K) H2 (.map (l.map (·.1)) (l.map (·.2.2))) v ∧ ∃ p, v = .ref p ∧ H p = none := fun H1 s Q k p np => by
  have s1 := sm_upd (o := .dK []) np
  refine tp_run l _ (fun x hx => (h x hx).mono (Same.trans s s1)) _ fun us H2 s2 hu => ⟨s2 _ _ upd_same, (l.map fun x => (Sum.inr x.1 : Key)).zip us, ?_, ?_, ?_⟩
  · have : ∀ (l : List (Str × TE × D5)) (us : List V), (l.map fun x => V.str x.1).zip us = ((l.map fun x => (Sum.inr x.1 : Key)).zip us).map fun kv => (kV kv.1, kv.2) := by
      intro l
      induction l with
      | nil => intro us; rfl
      | cons x l ih =>
        intro us
        cases us with
        | nil => rfl
        | cons u us => simp only [List.map_cons, List.zip_cons_cons, ih]; rfl
    exact this l us
  · rw [List.length_zip, List.length_map]
    omega
  · have lu : us.length = l.length := by rw [hu.len, List.length_map]
    have ek : ((l.map fun x => (Sum.inr x.1 : Key)).zip us).map (·.1) = (l.map (·.1)).map Sum.inr := by
      rw [List.map_fst_zip (by rw [List.length_map, lu]; exact Nat.le_refl _), List.map_map]
      rfl
    have ev : ((l.map fun x => (Sum.inr x.1 : Key)).zip us).map (·.2) = us := List.map_snd_zip (by rw [List.length_map, lu]; exact Nat.le_refl _)
    have nd2 : (((l.map fun x => (Sum.inr x.1 : Key)).zip us).map (·.1)).Nodup := by rw [ek]; exact List.pairwise_map.mpr (List.Pairwise.imp (fun n e => n (Sum.inr.inj e)) nd)
    rw [merge_nd _ [] (by simpa using nd2), List.nil_append]
    have c : Ch [p] H2 (upd H2 p (.dK ((l.map fun x => (Sum.inr x.1 : Key)).zip us))) := Ch.upd (by simp)
    have np0 : H p = none := by
      cases e : H p with
      | none => rfl
      | some o => rw [s _ _ e] at np; cases np
    refine k _ _ (fun b o e => (upd_ne (ne_of_none e np)).trans (s2 _ _ (s1 _ _ e))) ⟨⟨p, _, rfl, upd_same, nd, ek, ?_⟩, p, rfl, np0⟩
    rw [ev]
    refine DvL.ch c (fun a m o e => ?_) _ _ kp hu
    rw [List.mem_singleton.mp m, s2 _ _ upd_same] at e
    cases e
    exact alien_dk fun ks hk q => nk (by
      have : ks = [] := by simpa using q.symm
      rwa [this] at hk)
theorem ed_dispN {Ks : List (List Str)} (nk : [] ∉ Ks) (l : List (Str × TE × D5)) (h : ∀ x ∈ l, ED (O5 K) x.2.1 σ H x.2.2) (kp : kptL Ks (l.map (·.2.2)) = true) (nd : (l.map (·.1)).Nodup) (h15 : l.length ≤ 15) :
    ED (O5 K) (tDisp (l.map fun x => (tC (.str x.1), x.2.1))) σ H (.map (l.map (·.1)) (l.map (·.2.2))) := (ep_dispN nk l h kp nd h15).imp fun v H2 s r => r.1
end Ed
namespace Kd
open PySem PySem.Spec PyProof.Rows L2 Dq Vl Pf Ed ClX
abbrev sTb : Stmt := tp 56
abbrev NTb : List Str := ["_law_well_here", "_law_given", "_law_first", "_law_other"]
theorem scTb : FnScope NTb ["_law_well_here"] (defScope sTb) := ⟨rfl, rfl, rfl, by decide +kernel, rfl, by decide +kernel, by decide +kernel⟩
def spTb (K : PySem.W.Frag) : Sp := fun vs H Q _ => ∃ (a : Addr) (z : Int), vs = [.ref a] ∧ WellAt H a z ∧ 0 ≤ z ∧ z < 900000 ∧
  ∀ (tb : Addr) (hb : Bool) (z' : Int) H', z ≤ z' → z' ≤ z + 1 → WellAt H' a z' → But a H H' → Dv (O5 K) H' (tabsD hb) (.ref tb) → Q (.ref tb) H'
section
variable {P : Program} {w : World} {K : PySem.W.Frag} {mg : Str → Option Value} {base : Heap}
theorem ok_tb {f f1 : Addr} {fd fd1 : FuncData} (F : Fun K "_law_tables" "_law_tables" sTb f fd) (D1 : Def P w K mg base 2 "_law_one" f1 fd1 ["_law_well_here", "_law_some"] (spOne K)) : FnOk P w K mg base CX0 3 f fd ["_law_well_here"] (spTb K) := by
  refine F.ok scTb (fun vs H Q E h => ?_) (fun cdv A outer s H vs Q E hr h => ?_)
  · obtain ⟨a, z, rfl, _⟩ := h
    rfl
  · obtain ⟨a, z, rfl, hw, z0, z1, q⟩ := h
    refine ⟨_, pss_cons (ps_set (i := 1) scTb.nd rfl (Or.inl rfl) (pe_tup (pa_cons (pe_tup (pa_cons pe_str (pa_cons pe_str (pa_cons pe_bl (pa_cons pe_non pa_nil))))) (pa_cons (pe_tup (pa_cons pe_str (pa_cons pe_str (pa_cons pe_bl (pa_cons pe_non pa_nil))))) (pa_cons (pe_tup (pa_cons pe_str (pa_cons pe_str (pa_cons pe_bl (pa_cons pe_non pa_nil))))) pa_nil)))))
      (pss_cons (ps_set (i := 2) scTb.nd rfl (Or.inl rfl) (pe_disp (pps_cons pe_str pe_str (pps_cons pe_str (pv 1) (pps_cons pe_str (pe_tup (pa_cons (pe_tup (pa_cons pe_str (pa_cons (pe_tup (pa_cons pe_str pa_nil)) pa_nil))) pa_nil)) (pps_cons pe_str pe_non (pps_cons pe_str (pe_tup (pa_cons pe_str (pa_cons pe_str pa_nil))) pps_nil))))) (by rfl) (by rfl) (fun z => by cases z) (by decide)))
      (pss_cons (ps_set (i := 3) scTb.nd rfl (Or.inl rfl) (pe_disp (pps_cons pe_str pe_str (pps_cons pe_str (pv 1) (pps_cons pe_str (pe_tup (pa_cons (pe_tup (pa_cons pe_str (pa_cons (pe_tup (pa_cons pe_str pa_nil)) pa_nil))) (pa_cons (pe_tup (pa_cons pe_str (pa_cons (pe_tup (pa_cons pe_str pa_nil)) pa_nil))) pa_nil))) (pps_cons pe_str pe_non pps_nil)))) (by rfl) (by rfl) (fun z => by cases z) (by decide)))
      (pss_cons (ps_dput (hu_of hr) (pv 3) pe_str (pe_call D1.ok (hr.mono (by decide)) rfl D1.g D1.kp D1.b .nil pass0 (pa_cons (pv 0) (pa_cons (pe_lst (pa_cons (pe_tup (pa_cons pe_str pa_nil)) (pa_cons (pe_tup pa_nil) pa_nil))) pa_nil))) (by rfl))
      (pss_one (ps_ret (pe_disp (pps_cons pe_str (pv 2) (pps_cons pe_str (pv 3) pps_nil)) (by rfl) (by rfl) (fun z => by cases z) (by decide))))))), ?_⟩
    have P := kps5 (K := K)
    have row : ∀ {σ : L2.St} {H' : Hp} {s : Str} {b : Bool}, ED (O5 K) (tTup (tCons (tC (.str s)) (tCons (tC (.str "open")) (tCons (tC (.bl b)) (tCons (tC .non) tNil))))) σ H' (rwG s b) := fun {σ H' s b} => ed_tup P (ea_cons P ed_str (ea_cons P ed_str (ea_cons P ed_bl (ea_cons P ed_non ea_nil)))) (by simp)
    have mk1 : ∀ {σ : L2.St} {H' : Hp} {s t : Str}, ED (O5 K) (tTup (tCons (tC (.str s)) (tCons (tTup (tCons (tC (.str t)) tNil)) tNil))) σ H' (.tup [.str s, .tup [.str t]]) := fun {σ H' s t} => ed_tup P (ea_cons P ed_str (ea_cons P (ed_tup P (ea_cons P ed_str ea_nil) (by simp)) ea_nil)) (by simp)
    refine (ed_tup P (ea_cons P row (ea_cons P row (ea_cons P row ea_nil))) (by simp)).seq fun vg H1 s1 hg => ?_
    have hg1 : Dv (O5 K) H1 gvn vg := hg
    show tSeq _ _ _ [some (.ref a), some vg, none, none] H1
    have kg : ∀ Ks, kpt Ks gvn = true := fun Ks => by simp [gvn, kpt, kptL]
    have e1 := ed_dispN (K := K) (σ := [some (.ref a), some vg, none, none]) (H := H1) (Ks := []) (by simp) [("name", tC (.str "k"), .str "k"), ("given", tVar 1, gvn), ("made", tTup (tCons (tTup (tCons (tC (.str "id")) (tCons (tTup (tCons (tC (.str "id")) tNil)) tNil))) tNil), mdn false), ("single", tC .non, .non), ("holds", tTup (tCons (tC (.str "b")) (tCons (tC (.str "a")) tNil)), hln false false)]
      (fun x hx => by
        simp only [List.mem_cons, List.not_mem_nil, or_false] at hx
        rcases hx with rfl | rfl | rfl | rfl | rfl
        · exact ed_str
        · exact ed_pv P rfl hg1
        · exact ed_tup P (ea_cons P mk1 ea_nil) (by simp)
        · exact ed_non
        · exact ed_tup P (ea_cons P ed_str (ea_cons P ed_str ea_nil)) (by simp)) (by simp [kptL, kpt, kg, mdn, hln, hldN, rId]) (by decide +kernel) (by simp)
    refine ED.seq e1 fun v1 H2 s2 h1 => ?_
    show tSeq _ _ _ [some (.ref a), some vg, some v1, none] H2
    have hf : ∀ hb, Dv (O5 K) H2 (tabD hb false) v1 := fun hb => h1
    have e2 := ep_dispN (K := K) (σ := [some (.ref a), some vg, some v1, none]) (H := H2) (Ks := []) (by simp) [("name", tC (.str "other"), .str "other"), ("given", tVar 1, gvn), ("made", tTup (tCons (tTup (tCons (tC (.str "id")) (tCons (tTup (tCons (tC (.str "id")) tNil)) tNil))) (tCons (tTup (tCons (tC (.str "m")) (tCons (tTup (tCons (tC (.str "mark")) tNil)) tNil))) tNil)), mdn true), ("single", tC .non, .non)]
      (fun x hx => by
        simp only [List.mem_cons, List.not_mem_nil, or_false] at hx
        rcases hx with rfl | rfl | rfl | rfl
        · exact ed_str
        · exact ed_pv P rfl (P.dv s2 hg1)
        · exact ed_tup P (ea_cons P mk1 (ea_cons P mk1 ea_nil)) (by simp)
        · exact ed_non) (by simp [kptL, kpt, kg, mdn, rId, rMk]) (by decide +kernel) (by simp)
    refine EP.seq e2 fun v2 H3 s3 ⟨h2, nv⟩ => ?_
    obtain ⟨D, kvs, rfl, eD, nd, ek, hl⟩ := h2
    have nD2 : H2 D = none := by
      obtain ⟨p, e, n⟩ := nv
      cases e
      exact n
    show tSeq _ _ _ [some (.ref a), some vg, some v1, some (.ref D)] H3
    have s13 := Same.trans s1 (Same.trans s2 s3)
    have hw3 := wellS hw s13
    -- the choice
    have eL : ED (O5 K) (tLst (tCons (tTup (tCons (tC (.str "b")) tNil)) (tCons (tTup tNil) tNil))) [some (.ref a), some vg, some v1, some (.ref D)] H3 (.lst [.tup [.str "b"], .tup []]) := ed_lst P (ea_cons P (ed_tup P (ea_cons P ed_str ea_nil) (by simp)) (ea_cons P (ed_tup P ea_nil (by simp)) ea_nil)) (by simp)
    refine ⟨_, rfl, eL.run fun lv H4 s4 hlv => ?_⟩
    obtain ⟨L, us, rfl, eL4, hus⟩ := hlv
    have hw4 := wellS hw3 s4
    have nLa : L ≠ a := fun e => by
      obtain ⟨x, y, hx⟩ := hw4
      rw [e, hx] at eL4
      cases eL4
      have := hus.len
      simp at this
    refine ⟨a, L, z, us, rfl, hw4, eL4, nLa, by rw [hus.len]; simp, by rw [hus.len]; simp, z0, by omega, fun vh z' H5 hv zz1 zz2 hw5 b5 => ?_⟩
    obtain ⟨d, hd, hdv⟩ := dvl_mem hus hv
    have k45 : Kt H4 H5 := Kt.but hw4 b5
    obtain ⟨hb, hvh⟩ : ∃ hb, Dv (O5 K) H5 (hln hb true) vh := by
      simp only [List.mem_cons, List.not_mem_nil, or_false] at hd
      rcases hd with rfl | rfl
      · exact ⟨true, Dv.kt k45 (.tup [.str "b"]) _ (by simp [nol, nolL]) hdv⟩
      · exact ⟨false, Dv.kt k45 (.tup []) _ (by simp [nol, nolL]) hdv⟩
    have nDa : D ≠ a := fun e => by
      obtain ⟨x, y, hx⟩ := hw3
      rw [e, hx] at eD
      cases eD
    have eD5 := b5 _ _ (s4 _ _ eD) nDa
    have kl : kvs.length = 4 := by
      have := congrArg List.length ek
      rwa [List.length_map, List.length_map] at this
    have nh : valV kvs (Sum.inr "holds" : Key) = none := by
      unfold valV
      rw [Option.map_eq_none_iff, List.find?_eq_none]
      intro p hp
      simp only [decide_eq_true_eq]
      intro q3
      have m1 : (Sum.inr "holds" : Key) ∈ kvs.map (·.1) := by rw [← q3]; exact List.mem_map_of_mem (f := (·.1)) hp
      rw [ek] at m1
      obtain ⟨y2, hy, e7⟩ := List.mem_map.mp m1
      cases e7
      revert hy
      decide +kernel
    refine ⟨_, rfl, D, _, rfl, DPut.k (k := .inr "holds") eD5 (by rw [kl]; decide), ?_⟩
    rw [putK_new _ nh]
    have c5 : Ch [D] H5 (upd H5 D (.dK (kvs ++ [(.inr "holds", vh)]))) := Ch.upd (by simp)
    have al5 : ∀ b ∈ [D], ∀ o, H5 b = some o → Alien [tabK] o := fun b m o e => by
      rw [List.mem_singleton.mp m, eD5] at e
      cases e
      refine alien_dk fun ks hk q3 => ?_
      rw [List.mem_singleton.mp hk] at q3
      have := congrArg List.length q3
      rw [List.length_map, kl] at this
      cases this
    have tk1 : ∀ hb ko, kpt [tabK] (tabD hb ko) = true := fun hb ko => by
      have d1 : decide (tabK ∈ [tabK]) = true := by decide +kernel
      cases hb <;> cases ko <;> simp [tabD, kpt, kptL, d1, gvn, mdn, hln, hldN, rwG, rId, rMk]
    have k25 : Kt H2 H5 := (Kt.same (Same.trans s3 s4)).trans k45
    have tn : ∀ hb ko, nol (tabD hb ko) = true := fun hb ko => by cases hb <;> cases ko <;> simp [tabD, nol, nolL, gvn, mdn, hln, hldN, rwG, rId, rMk]
    have hf6 : Dv (O5 K) (upd H5 D (.dK (kvs ++ [(.inr "holds", vh)]))) (tabD hb false) v1 := Dv.ch c5 al5 _ _ (tk1 hb false) (Dv.kt k25 _ _ (tn hb false) (hf hb))
    have ho6 : Dv (O5 K) (upd H5 D (.dK (kvs ++ [(.inr "holds", vh)]))) (tabD hb true) (.ref D) := by
      refine ⟨D, _, rfl, upd_same, by decide +kernel, ?_, ?_⟩
      · rw [List.map_append, ek]; rfl
      · rw [List.map_append]
        have al0 : ∀ b ∈ [D], ∀ o, H5 b = some o → Alien [] o := fun b m o e => (al5 b m o e).mono (by simp)
        refine DvL.app (l := [.str "other", gvn, mdn true, .non]) (DvL.ch (Ks := []) c5 al0 _ _ (by simp [kptL, kpt, kg, mdn, rId, rMk]) (DvL.kt ((Kt.same s4).trans k45) _ _ (by simp [nolL, nol, gvn, mdn, rId, rMk]) hl)) ⟨_, _, rfl, Dv.ch (Ks := []) c5 al0 _ _ (by cases hb <;> simp [hln, hldN, kpt, kptL]) hvh, rfl⟩
    have hw6 : WellAt (upd H5 D (.dK (kvs ++ [(.inr "holds", vh)]))) a z' := wellU hw5 nDa
    have b6 : But a H (upd H5 D (.dK (kvs ++ [(.inr "holds", vh)]))) := fun b o e n1 => (upd_ne fun n2 => by rw [n2] at e; rw [Same.trans s1 s2 _ _ e] at nD2; cases nD2).trans (b5 _ _ (s4 _ _ (s13 _ _ e)) n1)
    generalize upd H5 D (.dK (kvs ++ [(.inr "holds", vh)])) = H6 at hf6 ho6 hw6 b6
    have e3 := ed_dispN (K := K) (σ := [some (.ref a), some vg, some v1, some (.ref D)]) (H := H6) (Ks := [tabK]) (by decide +kernel) [("k", tVar 2, tabD hb false), ("other", tVar 3, tabD hb true)]
      (fun x hx => by
        simp only [List.mem_cons, List.not_mem_nil, or_false] at hx
        rcases hx with rfl | rfl
        · exact ed_pv P rfl hf6
        · exact ed_pv P rfl ho6) (by simp [kptL, tk1]) (show (["k", "other"] : List Str).Nodup by decide +kernel) (by simp)
    refine ED.ret e3 fun v H7 s7 hv7 => ?_
    obtain ⟨tb, kvs7, rfl, r7⟩ := hv7
    exact q tb hb z' H7 zz1 zz2 (wellS hw6 s7) (fun b o e n => s7 _ _ (b6 b o e n)) ⟨tb, kvs7, rfl, r7⟩
end
end Kd

set_option Elab.async false
set_option linter.all false
set_option maxRecDepth 100000
set_option maxHeartbeats 4000000
/-! _law_naming -/
namespace Kd
open PySem PySem.Spec PyProof.Rows L2 Dq Vl Pf Ed ClX
abbrev sNm : Stmt := tp 57
abbrev NNm : List Str := ["_law_well_here", "_law_tags", "_law_one_here", "_law_other", "_law_some"]
abbrev PNm : List Str := ["_law_well_here", "_law_tags"]
theorem scNm : FnScope NNm PNm (defScope sNm) := ⟨rfl, rfl, rfl, by decide +kernel, rfl, by decide +kernel, by decide +kernel⟩
def spNm (K : PySem.W.Frag) : Sp := fun vs H Q _ => ∃ (a l : Addr) (z : Int) (us : List V) (ts : List Tg), vs = [.ref a, .ref l] ∧ WellAt H a z ∧ 0 ≤ z ∧ z < 900000 ∧ H l = some (.lst us) ∧ l ≠ a ∧ DvL (O5 K) H (ts.map tgD) us ∧ ts ≠ [] ∧ ts.length ≤ 10000 ∧ (∀ t ∈ ts, 1 ≤ t.2) ∧
  ∀ (v : V) (x : Vn) (z' : Int) H', Dv (O5 K) H' (vD x) v → vOk x → z ≤ z' → z' ≤ z + 3 → WellAt H' a z' → But a H H' → Q v H'
section
variable {P : Program} {w : World} {K : PySem.W.Frag} {mg : Str → Option Value} {base : Heap}
theorem tg_nol (t : Tg) : nol (tgD t) = true := rfl
theorem ok_nm {f f1 : Addr} {fd fd1 : FuncData} (F : Fun K "_law_naming" "_law_naming" sNm f fd) (D1 : Def P w K mg base 2 "_law_one" f1 fd1 ["_law_well_here", "_law_some"] (spOne K)) : FnOk P w K mg base CX0 3 f fd PNm (spNm K) := by
  refine F.ok scNm (fun vs H Q E h => ?_) (fun cdv A outer s H vs Q E hr h => ?_)
  · obtain ⟨a, l, z, us, ts, rfl, _⟩ := h
    rfl
  · obtain ⟨a, l, z, us, ts, rfl, hw, z0, z1, hl, nla, hus, tne, tl, tok, q⟩ := h
    refine ⟨_, pss_cons (ps_par (i := 2) (j := 3) (by rfl) scNm.nd rfl rfl (by decide) rfl rfl (pa_cons (pe_call D1.ok (hr.mono (by decide)) rfl D1.g D1.kp D1.b .nil pass0 (pa_cons (pv 0) (pa_cons (pv 1) pa_nil))) (pa_cons (pe_call D1.ok (hr.mono (by decide)) rfl D1.g D1.kp D1.b .nil pass0 (pa_cons (pv 0) (pa_cons (pv 1) pa_nil))) pa_nil)) (by rfl))
      (pss_cons (ps_set (i := 4) scNm.nd rfl (Or.inl rfl) (pe_lst (pa_cons pe_non (pa_cons (pv 2) (pa_cons (pv 2) (pa_cons (pe_tup (pa_cons (pv 2) pa_nil)) (pa_cons (pe_tup (pa_cons (pv 3) (pa_cons (pv 2) pa_nil))) (pa_cons (pe_tup (pa_cons (pv 2) (pa_cons pe_non pa_nil))) (pa_cons (pe_tup (pa_cons (pv 2) (pa_cons pe_str pa_nil)))
        (pa_cons (pe_disp (pps_cons pe_str (pv 2) pps_nil) (by rfl) (by rfl) (fun z => by cases z) (by decide)) (pa_cons (pe_tup (pa_cons (pe_tup (pa_cons (pv 2) pa_nil)) pa_nil)) (pa_cons (pe_tup pa_nil) (pa_cons pe_str (pa_cons (pe_ixT (pv 2) pe_int (fun _ _ => rfl)) pa_nil))))))))))))))
      (pss_one (ps_ret (pe_call D1.ok (hr.mono (by decide)) rfl D1.g D1.kp D1.b .nil pass0 (pa_cons (pv 0) (pa_cons (pv 4) pa_nil)))))), ?_⟩
    have P := kps5 (K := K)
    have ul : us.length = ts.length := by rw [hus.len, List.length_map]
    have pos : 0 < us.length := by
      rw [ul]
      cases ts with
      | nil => exact absurd rfl tne
      | cons _ _ => simp
    have tn : nolL (ts.map tgD) = true := nolL_all fun d hd => by obtain ⟨t, _, rfl⟩ := List.mem_map.mp hd; rfl
    have pick : ∀ {v : V} {H' : Hp}, DvL (O5 K) H' (ts.map tgD) us → v ∈ us → ∃ t : Tg, 1 ≤ t.2 ∧ Dv (O5 K) H' (tgD t) v := fun h hv => by
      obtain ⟨d, hd, hdv⟩ := dvl_mem h hv
      obtain ⟨t, ht, rfl⟩ := List.mem_map.mp hd
      exact ⟨t, tok t ht, hdv⟩
    refine ⟨_, rfl, _, rfl, a, l, z, us, rfl, hw, hl, nla, pos, by omega, z0, by omega, fun v1 za H1 hv1 za1 za2 hwA bA => ?_⟩
    have kA : Kt H H1 := Kt.but hw bA
    have hl1 := bA _ _ hl nla
    have hus1 := DvL.kt kA _ _ tn hus
    obtain ⟨t1, ok1, d1⟩ := pick hus1 hv1
    refine ⟨_, rfl, _, rfl, a, l, za, us, rfl, hwA, hl1, nla, pos, by omega, by omega, by omega, fun v2 zb H2 hv2 zb1 zb2 hwB bB => ?_⟩
    have kB : Kt H1 H2 := Kt.but hwA bB
    obtain ⟨t2, ok2, d2⟩ := pick (DvL.kt kB _ _ tn hus1) hv2
    have d1 := Dv.kt kB _ _ (tg_nol t1) d1
    refine ⟨_, _, rfl, ?_⟩
    show tSeq _ _ _ [some (.ref a), some (.ref l), some v1, some v2, none] H2
    have p1 : ∀ {H' : Hp}, Same H2 H' → ED (O5 K) (tVar 2) [some (.ref a), some (.ref l), some v1, some v2, none] H' (tgD t1) := fun s => ed_pv P rfl (P.dv s d1)
    have p2 : ∀ {H' : Hp}, Same H2 H' → ED (O5 K) (tVar 3) [some (.ref a), some (.ref l), some v1, some v2, none] H' (tgD t2) := fun s => ed_pv P rfl (P.dv s d2)
    have r := Same.refl H2
    have mp := ed_dispN (K := K) (σ := [some (.ref a), some (.ref l), some v1, some v2, none]) (H := H2) (Ks := []) (by simp) [("x", tVar 2, tgD t1)] (fun x hx => by
      rw [List.mem_singleton.mp hx]
      exact p1 r) (by simp [kptL, kpt, tgD, tagOf]) (by simp) (by simp)
    have all := ed_lst (K := K) P (ea_cons P (ed_non (σ := [some (.ref a), some (.ref l), some v1, some v2, none]) (H := H2)) (ea_cons P (p1 r) (ea_cons P (p1 r) (ea_cons P (ed_tup P (ea_cons P (p1 r) ea_nil) (by simp)) (ea_cons P (ed_tup P (ea_cons P (p2 r) (ea_cons P (p1 r) ea_nil)) (by simp)) (ea_cons P (ed_tup P (ea_cons P (p1 r) (ea_cons P ed_non ea_nil)) (by simp)) (ea_cons P (ed_tup P (ea_cons P (p1 r) (ea_cons P (ed_str (s := "x")) ea_nil)) (by simp))
      (ea_cons P mp (ea_cons P (ed_tup P (ea_cons P (ed_tup P (ea_cons P (p1 r) ea_nil) (by simp)) ea_nil) (by simp)) (ea_cons P (ed_tup P ea_nil (by simp)) (ea_cons P (ed_str (s := "x")) (ea_cons P (ed_ixT P (i := 2) (l := [.str "#", .str (kname t1.1), .int (t1.2 : Int)]) (d := .int (t1.2 : Int)) (p1 r) rfl) ea_nil)))))))))))) (by simp)
    refine ED.seq all fun v3 H3 s3 hv3 => ?_
    obtain ⟨L, ws, rfl, eL, hws⟩ := hv3
    have hws : DvL (O5 K) H3 (([.non, .tg t1, .tg t1, .one t1, .two t2 t1, .tN t1, .tX t1, .mp t1, .nest t1, .emp, .x, .num t1.2] : List Vn).map vD) ws := hws
    have wl : ws.length = 12 := hws.len
    have hwC := wellS hwB s3
    have nLa : L ≠ a := fun e => by
      obtain ⟨x, y, hx⟩ := hwC
      rw [e, hx] at eL
      cases eL
      simp at wl
    refine ⟨_, rfl, _, rfl, a, L, zb, ws, rfl, hwC, eL, nLa, by omega, by omega, by omega, by omega, fun v zc H4 hv zc1 zc2 hwD bD => ?_⟩
    obtain ⟨d, hd, hdv⟩ := dvl_mem hws hv
    obtain ⟨x, hx, rfl⟩ := List.mem_map.mp hd
    have ok : vOk x := by
      simp only [List.mem_cons, List.not_mem_nil, or_false] at hx
      rcases hx with rfl | rfl | rfl | rfl | rfl | rfl | rfl | rfl | rfl | rfl | rfl | rfl
      · trivial
      · exact ok1
      · exact ok1
      · exact ok1
      · exact ⟨ok2, ok1⟩
      · exact ok1
      · exact ok1
      · exact ok1
      · exact ok1
      · trivial
      · trivial
      · trivial
    exact q v x zc H4 (Dv.kt (Kt.but hwC bD) _ _ (vD_nol x) hdv) ok (by omega) (by omega) hwD fun b o e n => bD b o (s3 _ _ (bB b o (bA b o e n) n)) n
end
end Kd

set_option Elab.async false
set_option linter.all false
set_option maxRecDepth 100000
set_option maxHeartbeats 4000000
/-! what stays while the law plays -/
namespace Kd
open PySem PySem.Spec PyProof.Rows L2 Dq Vl Pf Ed ClX LamX
abbrev qL : Str := "_law_right.<locals>.<lambda>"
def Kall : List (List Str) := [["x"], ["a", "b", "c"], ["a", "b", "c", "id"], ["a", "b", "c", "id", "m"], ["k", "other"], tabK]
/-- an object that may change -/
structure Apt (CK : Addr) (o : HO) : Prop where
  al : Alien Kall o
  ins : ∀ dx fs, o ≠ .ins CK dx fs
  row : ∀ t k d, o ≠ .lst [.ref t, .str k, .ref d]
  tbl : ∀ ps, o ≠ .tbl ps
  ext : ∀ c q, o ≠ CodeO c q
/-- what is kept alive -/
structure Calm (CK : Addr) (H H' : Hp) : Prop where
  t : ∀ b xs, H b = some (.tup xs) → H' b = some (.tup xs)
  f : ∀ b o xs, H b = some (.frz o (.tup xs)) → H' b = some (.frz o (.tup xs))
  d : ∀ b kvs ks, ks ∈ Kall → H b = some (.dK kvs) → kvs.map (·.1) = ks.map Sum.inr → H' b = some (.dK kvs)
  i : ∀ b dx fs, H b = some (.ins CK dx fs) → H' b = some (.ins CK dx fs)
  l : ∀ b t k d, H b = some (.lst [.ref t, .str k, .ref d]) → H' b = some (.lst [.ref t, .str k, .ref d])
section
variable {K : PySem.W.Frag} {CW CK Pt : Addr} {H H' H2 : Hp} {S : List Addr}
theorem Calm.same (s : Same H H') : Calm CK H H' := ⟨fun _ _ e => s _ _ e, fun _ _ _ e => s _ _ e, fun _ _ _ _ e _ => s _ _ e, fun _ _ _ e => s _ _ e, fun _ _ _ _ e => s _ _ e⟩
theorem Calm.trans (a : Calm CK H H') (b : Calm CK H' H2) : Calm CK H H2 := ⟨fun _ _ e => b.t _ _ (a.t _ _ e), fun _ _ _ e => b.f _ _ _ (a.f _ _ _ e), fun _ _ ks m e k => b.d _ _ ks m (a.d _ _ ks m e k) k, fun _ _ _ e => b.i _ _ _ (a.i _ _ _ e), fun _ _ _ _ e => b.l _ _ _ _ (a.l _ _ _ _ e)⟩
theorem Calm.ext (e : ExtN H H') : Calm CK H H' := ⟨fun _ _ h => e _ _ h fun _ z => (nomatch z), fun _ _ _ h => e _ _ h fun _ z => (nomatch z), fun _ _ _ _ h _ => e _ _ h fun _ z => (nomatch z), fun _ _ _ h => e _ _ h fun _ z => (nomatch z), fun _ _ _ _ h => e _ _ h fun _ z => (nomatch z)⟩
theorem Calm.ch (c : Ch S H H') (al : ∀ a ∈ S, ∀ o, H a = some o → Apt CK o) : Calm CK H H' :=
  ⟨fun b xs h => c _ _ h fun m => (al b m _ h).al.1 _ rfl, fun b o xs h => c _ _ h fun m => (al b m _ h).al.2.1 _ _ rfl, fun b kvs ks m h k => c _ _ h fun m2 => (al b m2 _ h).al.2.2 _ _ rfl m k, fun b dx fs h => c _ _ h fun m => (al b m _ h).ins _ _ rfl, fun b t k d h => c _ _ h fun m => (al b m _ h).row _ _ _ rfl⟩
mutual
theorem Dv.calm (c : Calm CK H H') : ∀ (x : D5) (v : V), kpt Kall x = true → Dv (O5 K) H x v → Dv (O5 K) H' x v
  | .non, _, _, h => h
  | .bl _, _, _, h => h
  | .int _, _, _, h => h
  | .str _, _, _, h => h
  | .ob _, _, n, _ => nomatch n
  | .tup l, _, n, ⟨b, us, e, h, p⟩ => by
    rw [kpt] at n
    refine ⟨b, us, e, ?_, DvL.calm c l us n p⟩
    rcases h with (h | ⟨o, h⟩) | h
    · exact .inl (.inl (c.t _ _ h))
    · exact .inl (.inr ⟨o, c.f _ _ _ h⟩)
    · exact .inr h
  | .lst l, _, n, _ => by rw [kpt] at n; cases n
  | .map ks l, _, n, ⟨b, kvs, e, h, nd, hk, p⟩ => by
    rw [kpt, Bool.and_eq_true, decide_eq_true_eq] at n
    exact ⟨b, kvs, e, c.d _ _ ks n.1 h hk, nd, hk, DvL.calm c l _ n.2 p⟩
theorem DvL.calm (c : Calm CK H H') : ∀ (l : List D5) (us : List V), kptL Kall l = true → DvL (O5 K) H l us → DvL (O5 K) H' l us
  | [], _, _, h => h
  | x :: l, _, n, ⟨u, us, e, h, p⟩ => by
    rw [kptL, Bool.and_eq_true] at n
    exact ⟨u, us, e, Dv.calm c x u n.1 h, DvL.calm c l us n.2 p⟩
end
theorem km_all {d : D5} (h : kpt Kmaps d = true) : kpt Kall d = true := kpt_mono (by decide +kernel) d h
theorem kn_all {d : D5} (h : kpt [] d = true) : kpt Kall d = true := kpt_mono (by simp) d h
theorem KdAt.calm {a : Addr} {hb ko : Bool} (c : Calm CK H H') : KdAt (O5 K) CK H a (kindD hb ko) → KdAt (O5 K) CK H' a (kindD hb ko) :=
  fun ⟨dx, v1, v2, v3, v4, v5, e, w1, w2, w3, w4, w5, e2, h1, h2, h3, h4, h5⟩ => by
    obtain ⟨p1, p2, p3, p4, p5⟩ := kindD_kpt hb ko
    exact ⟨dx, v1, v2, v3, v4, v5, c.i _ _ _ e, w1, w2, w3, w4, w5, e2, Dv.calm c _ _ (kn_all p1) h1, Dv.calm c _ _ (kn_all p2) h2, Dv.calm c _ _ (kn_all p3) h3, Dv.calm c _ _ (kn_all p4) h4, Dv.calm c _ _ (kn_all p5) h5⟩
theorem KAt.calm {kd : Addr} {hb : Bool} (c : Calm CK H H') (h : KAt K CK H kd hb) : KAt K CK H' kd hb := by
  obtain ⟨ak, ao, e, h1, h2⟩ := h.at_
  exact ⟨ak, ao, c.d _ _ ["k", "other"] (by decide +kernel) e rfl, h1.calm c, h2.calm c⟩
theorem Rws.calm (c : Calm CK H H') {rows : List Ro} {kvs : List (List Key × V)} (o : ∀ r ∈ rows, OkR r) (h : Rws K H rows kvs) : Rws K H' rows kvs := Rws.mono (fun r v or hv => Dv.calm c _ _ (km_all (mapR_kpt or)) hv) o h
theorem MRows.calm (c : Calm CK H H') : ∀ {rs : List Ro} {vs : List V}, (∀ r ∈ rs, OkR r) → MRows K H rs vs → MRows K H' rs vs
  | [], _, _, h => h
  | r :: rs, _, o, ⟨l, t, d, vs', e, h1, h2, h3, p⟩ => ⟨l, t, d, vs', e, c.l _ _ _ _ h1, c.t _ _ h2, Dv.calm c _ _ (km_all (mapR_kpt (o r List.mem_cons_self))) h3, p.calm c fun r' hr => o r' (List.mem_cons_of_mem _ hr)⟩
theorem tabs_kpt (hb : Bool) : kpt Kall (tabsD hb) = true := by
  have d1 : decide (tabK ∈ Kall) = true := by decide +kernel
  have d2 : decide ((["k", "other"] : List Str) ∈ Kall) = true := by decide +kernel
  cases hb <;> simp only [tabsD, tabD, kpt, kptL, d1, d2, gvn, mdn, hln, hldN, rwG, rId, rMk, Bool.and_true] <;> rfl
/-- all but w and the tables stays -/
def Fr (w : Addr) (H H' : Hp) : Prop := ∀ b o, H b = some o → b ≠ w → (∀ ps, o ≠ .tbl ps) → H' b = some o
theorem Fr.refl (w : Addr) (H : Hp) : Fr w H H := fun _ _ e _ _ => e
theorem Fr.trans {w : Addr} {H H1 H2 : Hp} (a : Fr w H H1) (b : Fr w H1 H2) : Fr w H H2 := fun c o e n t => b c o (a c o e n t) n t
theorem Fr.same {w : Addr} (s : Same H H') : Fr w H H' := fun b o e _ _ => s b o e
theorem Fr.ext {w : Addr} (s : ExtN H H') : Fr w H H' := fun b o e _ n => s b o e n
theorem Fr.but {w : Addr} (s : But w H H') : Fr w H H' := fun b o e n _ => s b o e n
/-- nothing but a table stood there -/
def NewF (Hb : Hp) (a : Addr) : Prop := ∀ o, Hb a = some o → ∃ ps, o = .tbl ps
theorem Fr.ch {w : Addr} {Hb : Hp} (f : Fr w Hb H) (c : Ch S H H') (n : ∀ a ∈ S, NewF Hb a) : Fr w Hb H' := fun b o e nw nt => c b o (f b o e nw nt) fun m => by
  obtain ⟨ps, q⟩ := n b m o e
  exact nt ps q
theorem NewF.of {w a : Addr} {Hb : Hp} {z : Int} (f : Fr w Hb H) (hw : WellAt H w z) (n : H a = none) : NewF Hb a := fun o e => by
  by_cases h : ∃ ps, o = .tbl ps
  · exact h
  · have nw : a ≠ w := wellNe hw n
    rw [f a o e nw fun ps q => h ⟨ps, q⟩] at n
    cases n
/-- the two worlds stand -/
structure Cur (K : PySem.W.Frag) (CW CK Pt : Addr) (Hb H : Hp) (w aw kd sd am tb rl : Addr) (hb : Bool) (rs : List Ro) (n : Nat) (rs2 : List Ro) (n2 : Nat) (z : Int) : Prop where
  well : WellAt H w z
  wd : WAt K CW H aw kd sd rs (n : Int)
  kk : KAt K CK H kd hb
  md : MAt K H am tb rl hb rs2 (n2 : Int)
  tbs : Tabs [(Pt, qL)] H
  ok : ∀ r ∈ rs, OkR r
  ok2 : ∀ r ∈ rs2, OkR r
  fb : Fr w Hb H
  nb : NewF Hb aw ∧ NewF Hb sd ∧ NewF Hb am ∧ NewF Hb rl
theorem codeN {o : HO} (h : ∀ phi, o ≠ .ext phi) : ∀ c q, o ≠ CodeO c q := fun c q e => h _ (by unfold CodeO at e; exact e)
theorem apt_dT {kvs : List (List Key × V)} : Apt CK (.dT kvs) := ⟨⟨fun xs e => (nomatch e), fun o xs e => (nomatch e), fun kvs' ks e hk => (nomatch e)⟩, fun _ _ e => (nomatch e), fun _ _ _ e => (nomatch e), fun _ e => (nomatch e), codeN fun _ e => nomatch e⟩
theorem apt_ins {C dx : Addr} {fs : List (Str × V)} (n : C ≠ CK) : Apt CK (.ins C dx fs) := ⟨alien_ins, fun _ _ e => (by cases e; exact n rfl), fun _ _ _ e => (nomatch e), fun _ e => (nomatch e), codeN fun _ e => nomatch e⟩
theorem apt_lst {xs : List V} (h : ∀ t k d, xs ≠ [.ref t, .str k, .ref d]) : Apt CK (.lst xs) := ⟨alien_lst, fun _ _ e => (nomatch e), fun t k d e => h t k d (by cases e; rfl), fun _ e => (nomatch e), codeN fun _ e => nomatch e⟩
theorem apt_mkv {tb rl : Addr} {n : Int} : Apt CK (.dK (mkv tb rl n)) := ⟨alien_dk fun ks hk q => by
    have h : ∀ ks ∈ Kall, ((["tables", "rows", "told"] : List Str).map (Sum.inr : Str → Key)) ≠ ks.map Sum.inr := by decide +kernel
    exact h ks hk q, fun _ _ e => (nomatch e), fun _ _ _ e => (nomatch e), fun _ e => (nomatch e), codeN fun _ e => nomatch e⟩
theorem apt_rows {rs : List Ro} {vs : List V} (h : MRows K H rs vs) : Apt CK (.lst vs) := apt_lst fun t k d e => h.alR.2 t k d (congrArg HO.lst e)
theorem tabs_ch {T : List (Addr × Str)} (t : Tabs T H) (c : Ch S H H') (al : ∀ a ∈ S, ∀ o, H a = some o → Apt CK o) : Tabs T H' := fun p hp => by
  obtain ⟨ps, h1, h2, h3⟩ := t p hp
  refine ⟨ps, c _ _ h1 fun m => (al _ m _ h1).tbl _ rfl, h2, fun pos cv hc => ?_⟩
  obtain ⟨cc, e1, e2⟩ := h3 pos cv hc
  exact ⟨cc, e1, c _ _ e2 fun m => (al _ m _ e2).ext _ _ rfl⟩
variable {w aw kd sd am tb rl rl' : Addr} {Hb : Hp} {hb : Bool} {rs rs2 rs' : List Ro} {n n2 n' : Nat} {z z' : Int}
theorem Cur.calm (h : Cur K CW CK Pt Hb H w aw kd sd am tb rl hb rs n rs2 n2 z) (c : Calm CK H H') (t : Tabs [(Pt, qL)] H') (hw : WellAt H' w z') (ea : ∀ o, H aw = some o → H' aw = some o) (es : ∀ o, H sd = some o → H' sd = some o) (em : ∀ o, H am = some o → H' am = some o) (er : ∀ o, H rl = some o → H' rl = some o) (f : Fr w Hb H') :
    Cur K CW CK Pt Hb H' w aw kd sd am tb rl hb rs n rs2 n2 z' := by
  obtain ⟨dx, e1⟩ := h.wd.w
  obtain ⟨kvs, e2, r2⟩ := h.wd.s
  obtain ⟨vs, e3, r3⟩ := h.md.r
  exact ⟨hw, ⟨⟨dx, ea _ e1⟩, kvs, es _ e2, r2.calm c h.ok⟩, h.kk.calm c, ⟨em _ h.md.m, Dv.calm c _ _ (tabs_kpt hb) h.md.t, vs, er _ e3, r3.calm c h.ok2⟩, t, h.ok, h.ok2, f, h.nb⟩
theorem Cur.same (h : Cur K CW CK Pt Hb H w aw kd sd am tb rl hb rs n rs2 n2 z) (s : Same H H') : Cur K CW CK Pt Hb H' w aw kd sd am tb rl hb rs n rs2 n2 z :=
  h.calm (.same s) (h.tbs.ext s) (wellS h.well s) (fun o e => s _ _ e) (fun o e => s _ _ e) (fun o e => s _ _ e) (fun o e => s _ _ e) (h.fb.trans (.same s))
theorem Cur.ext (h : Cur K CW CK Pt Hb H w aw kd sd am tb rl hb rs n rs2 n2 z) (s : ExtN H H') (t : Tabs [(Pt, qL)] H') : Cur K CW CK Pt Hb H' w aw kd sd am tb rl hb rs n rs2 n2 z := by
  obtain ⟨x, y, e0⟩ := h.well
  obtain ⟨dx, e1⟩ := h.wd.w
  obtain ⟨kvs, e2, r2⟩ := h.wd.s
  obtain ⟨vs, e3, r3⟩ := h.md.r
  have e4 := h.md.m
  exact h.calm (.ext s) t ⟨x, y, s _ _ e0 fun _ z => (nomatch z)⟩ (fun o e => s _ _ e fun _ z => by rw [z, e1] at e; cases e) (fun o e => s _ _ e fun _ z => by rw [z, e2] at e; cases e) (fun o e => s _ _ e fun _ z => by rw [z, e4] at e; cases e) (fun o e => s _ _ e fun _ z => by rw [z, e3] at e; cases e) (h.fb.trans (.ext s))
/-- the five that change are apart -/
structure Apart (w aw sd am rl : Addr) : Prop where
  a1 : w ≠ aw
  a2 : w ≠ sd
  a3 : w ≠ am
  a4 : w ≠ rl
  a5 : aw ≠ sd
  a6 : aw ≠ am
  a7 : aw ≠ rl
  a8 : sd ≠ am
  a9 : sd ≠ rl
  a10 : am ≠ rl
theorem Cur.apart (h : Cur K CW CK Pt Hb H w aw kd sd am tb rl hb rs n rs2 n2 z) : Apart w aw sd am rl := by
  obtain ⟨x, y, e0⟩ := h.well
  obtain ⟨dx, e1⟩ := h.wd.w
  obtain ⟨kvs, e2, r2⟩ := h.wd.s
  obtain ⟨vs, e3, r3⟩ := h.md.r
  have e4 := h.md.m
  refine ⟨ne_of e0 e1 (fun q => nomatch q), ne_of e0 e2 (fun q => nomatch q), ne_of e0 e4 (fun q => nomatch q), ne_of e0 e3 (fun q => ?_), ne_of e1 e2 (fun q => nomatch q), ne_of e1 e4 (fun q => nomatch q), ne_of e1 e3 (fun q => nomatch q), ne_of e2 e4 (fun q => nomatch q), ne_of e2 e3 (fun q => nomatch q), ne_of e4 e3 (fun q => nomatch q)⟩
  injection q with q
  obtain ⟨r, l, t, d, _, e, _⟩ := r3.get (i := 0) (x := .int x) (by rw [← q]; rfl)
  cases e
/-- the five are apt -/
theorem Cur.apt (ne : CW ≠ CK) (h : Cur K CW CK Pt Hb H w aw kd sd am tb rl hb rs n rs2 n2 z) : ∀ a ∈ [w, aw, sd, am, rl], ∀ o, H a = some o → Apt CK o := by
  intro a m o e
  obtain ⟨x, y, e0⟩ := h.well
  obtain ⟨dx, e1⟩ := h.wd.w
  obtain ⟨kvs, e2, r2⟩ := h.wd.s
  obtain ⟨vs, e3, r3⟩ := h.md.r
  have e4 := h.md.m
  simp only [List.mem_cons, List.not_mem_nil, or_false] at m
  rcases m with rfl | rfl | rfl | rfl | rfl
  · rw [e0] at e; cases e; exact apt_lst fun t k d q => by cases q
  · rw [e1] at e; cases e; exact apt_ins ne
  · rw [e2] at e; cases e; exact apt_dT
  · rw [e4] at e; cases e; exact apt_mkv
  · rw [e3] at e; cases e; exact apt_rows r3
theorem Cur.draw (ne : CW ≠ CK) (h : Cur K CW CK Pt Hb H w aw kd sd am tb rl hb rs n rs2 n2 z) (b : But w H H') (hw : WellAt H' w z') : Cur K CW CK Pt Hb H' w aw kd sd am tb rl hb rs n rs2 n2 z' := by
  have A := h.apart
  have al : ∀ a ∈ [w], ∀ o, H a = some o → Apt CK o := fun a m o e => h.apt ne a (by rw [List.mem_singleton.mp m]; simp) o e
  exact h.calm (.ch (.but b) al) (tabs_ch h.tbs (.but b) al) hw (fun o e => b _ _ e (Ne.symm A.a1)) (fun o e => b _ _ e (Ne.symm A.a2)) (fun o e => b _ _ e (Ne.symm A.a3)) (fun o e => b _ _ e (Ne.symm A.a4)) (h.fb.trans (.but b))
theorem Cur.calmW (ne : CW ≠ CK) (h : Cur K CW CK Pt Hb H w aw kd sd am tb rl hb rs n rs2 n2 z) (c : Ch [aw, sd] H H') : Calm CK H H' := .ch c fun a m o e => h.apt ne a (by simp only [List.mem_cons, List.not_mem_nil, or_false] at m ⊢; rcases m with rfl | rfl <;> simp) o e
theorem Cur.calmM (ne : CW ≠ CK) (h : Cur K CW CK Pt Hb H w aw kd sd am tb rl hb rs n rs2 n2 z) (c : Ch [am, rl] H H') : Calm CK H H' := .ch c fun a m o e => h.apt ne a (by simp only [List.mem_cons, List.not_mem_nil, or_false] at m ⊢; rcases m with rfl | rfl <;> simp) o e
/-- the world has changed -/
theorem Cur.made (ne : CW ≠ CK) (h : Cur K CW CK Pt Hb H w aw kd sd am tb rl hb rs n rs2 n2 z) (c : Ch [aw, sd] H H') (wd : WAt K CW H' aw kd sd rs' (n' : Int)) (ok : ∀ r ∈ rs', OkR r) : Cur K CW CK Pt Hb H' w aw kd sd am tb rl hb rs' n' rs2 n2 z := by
  have A := h.apart
  have cm := h.calmW ne c
  obtain ⟨x, y, e0⟩ := h.well
  obtain ⟨vs, e3, r3⟩ := h.md.r
  have out : ∀ {b : Addr}, b ≠ aw → b ≠ sd → b ∉ [aw, sd] := fun n1 n2 m => by
    simp only [List.mem_cons, List.not_mem_nil, or_false] at m
    rcases m with m | m
    · exact n1 m
    · exact n2 m
  exact ⟨⟨x, y, c _ _ e0 (out A.a1 A.a2)⟩, wd, h.kk.calm cm, ⟨c _ _ h.md.m (out (Ne.symm A.a6) (Ne.symm A.a8)), Dv.calm cm _ _ (tabs_kpt hb) h.md.t, vs, c _ _ e3 (out (Ne.symm A.a7) (Ne.symm A.a9)), r3.calm cm h.ok2⟩,
    tabs_ch h.tbs c (fun a m o e => h.apt ne a (by simp only [List.mem_cons, List.not_mem_nil, or_false] at m ⊢; rcases m with rfl | rfl <;> simp) o e), ok, h.ok2, h.fb.ch c (fun a m => by simp only [List.mem_cons, List.not_mem_nil, or_false] at m; rcases m with rfl | rfl; exact h.nb.1; exact h.nb.2.1), h.nb⟩
/-- the model has changed -/
theorem Cur.lmade (ne : CW ≠ CK) (h : Cur K CW CK Pt Hb H w aw kd sd am tb rl hb rs n rs2 n2 z) (c : Ch [am, rl] H H') (md : MAt K H' am tb rl' hb rs' (n' : Int)) (ok : ∀ r ∈ rs', OkR r) (nr : NewF Hb rl') : Cur K CW CK Pt Hb H' w aw kd sd am tb rl' hb rs n rs' n' z := by
  have A := h.apart
  have cm := h.calmM ne c
  obtain ⟨x, y, e0⟩ := h.well
  obtain ⟨dx, e1⟩ := h.wd.w
  obtain ⟨kvs, e2, r2⟩ := h.wd.s
  have out : ∀ {b : Addr}, b ≠ am → b ≠ rl → b ∉ [am, rl] := fun n1 n2 m => by
    simp only [List.mem_cons, List.not_mem_nil, or_false] at m
    rcases m with m | m
    · exact n1 m
    · exact n2 m
  exact ⟨⟨x, y, c _ _ e0 (out A.a3 A.a4)⟩, ⟨⟨dx, c _ _ e1 (out A.a6 A.a7)⟩, kvs, c _ _ e2 (out A.a8 A.a9), r2.calm cm h.ok⟩, h.kk.calm cm, md,
    tabs_ch h.tbs c (fun a m o e => h.apt ne a (by simp only [List.mem_cons, List.not_mem_nil, or_false] at m ⊢; rcases m with rfl | rfl <;> simp) o e), h.ok, ok, h.fb.ch c (fun a m => by simp only [List.mem_cons, List.not_mem_nil, or_false] at m; rcases m with rfl | rfl; exact h.nb.2.2.1; exact h.nb.2.2.2), h.nb.1, h.nb.2.1, h.nb.2.2.1, nr⟩
/-- a list that was new has changed -/
theorem Cur.side {D : Addr} {xs : List V} (h : Cur K CW CK Pt Hb H w aw kd sd am tb rl hb rs n rs2 n2 z) (e : H D = some (.lst xs)) (apt : Apt CK (.lst xs)) (n1 : D ≠ w) (n2' : D ≠ rl) (nD : NewF Hb D) {ys : List V} : Cur K CW CK Pt Hb (upd H D (.lst ys)) w aw kd sd am tb rl hb rs n rs2 n2 z := by
  have c : Ch [D] H (upd H D (.lst ys)) := .upd (by simp)
  have al : ∀ a ∈ [D], ∀ o, H a = some o → Apt CK o := fun a m o q => by rw [List.mem_singleton.mp m, e] at q; cases q; exact apt
  obtain ⟨dx, e1⟩ := h.wd.w
  obtain ⟨kvs, e2, r2⟩ := h.wd.s
  have e4 := h.md.m
  exact h.calm (.ch c al) (tabs_ch h.tbs c al) (wellU h.well n1) (fun o q => (upd_ne (ne_of e1 e fun z => nomatch z)).trans q) (fun o q => (upd_ne (ne_of e2 e fun z => nomatch z)).trans q) (fun o q => (upd_ne (ne_of e4 e fun z => nomatch z)).trans q) (fun o q => (upd_ne (Ne.symm n2')).trans q) (h.fb.ch c fun a m => by rw [List.mem_singleton.mp m]; exact nD)
end
end Kd

set_option Elab.async false
set_option linter.all false
set_option maxRecDepth 100000
set_option maxHeartbeats 4000000
/-! _law_right: a making -/
namespace Ed
open PySem PySem.Spec PyProof.Rows L2 Dq Vl Kd
variable {K : PySem.W.Frag} {σ : L2.St} {H : Hp} {ta : TE}
/-- [row[0] for row in rows] -/
theorem ed_rowtags {rows : List Ro} {vs : List V} {rl : Addr} {i : Nat} (erl : H rl = some (.lst vs)) (mr : MRows K H rows vs) (l1 : rows.length ≤ 1000) (h : EP ta σ H fun v _ => v = .ref rl) (hw : ∀ u, wipe ((wipe σ [i]).set i (some u)) [i] = wipe σ [i]) (hi : ∀ u, ((wipe σ [i]).set i (some u))[i]? = some (some u)) :
    ED (O5 K) (tLc (iList K ta) (gName i) tYes (tOp (rIxL K) (tVar i) (tC (.int 0))) [i]) σ H (.lst (rows.map tagR)) := by
  have lvs := mr.len
  have := ed_lcV (K := K) (te := tOp (rIxL K) (tVar i) (tC (.int 0))) (i := i) (vs := vs) (f := fun j => tagR (rows.getD j ⟨Str.empty, 0, .non, .non, .non, none⟩)) (ta := ta) (σ := σ) (H := H) (h.imp fun v H2 s e => ⟨rl, e, s _ _ erl⟩) (by omega) (fun j hj => rfl) hw fun j u H3 eu s3 => by
    obtain ⟨r, l, t, d', er, rfl, hl, ht, _⟩ := (mr.same s3).get eu
    rw [List.getD_eq_getElem?_getD, er]
    exact fun H4 s4 Q4 q4 => ⟨_, hi _, l, _, _, .ref t, rfl, rfl, SqL.of (s4 _ _ hl), atI_nat (j := 0) rfl, q4 _ _ (Same.refl _) ⟨t, _, rfl, .inl (.inl (s4 _ _ ht)), _, _, rfl, rfl, _, _, rfl, rfl, _, _, rfl, rfl, rfl⟩⟩
  have el : (List.range vs.length).map (fun j => tagR (rows.getD j ⟨Str.empty, 0, .non, .non, .non, none⟩)) = rows.map tagR := by
    rw [lvs]
    refine List.ext_getElem (by simp) fun j h1 h2 => ?_
    simp at h1 h2 ⊢
    rw [List.getElem?_eq_getElem h1]
    rfl
  rw [el] at this
  exact this
end Ed
namespace Kd
open PySem PySem.Spec PyProof.Rows L2 Dq Vl Pf Ed ClX LamX
def bodyOf (s : Stmt) : List Stmt := match s with
  | .For _ _ b _ _ => b
  | _ => []
abbrev sRt : Stmt := tp 58
abbrev NRt : List Str := ["_law_well_here", "_law_tables_here", "_law_kinds", "_law_world", "_law_m", "_law_often", "_law_turn", "_law_kind", "_law_tags", "_law_given", "_law_odd", "_law_tag_here", "_law_due", "_law_name", "_law_row_here"]
theorem scRt : FnScope NRt ["_law_well_here"] (defScope sRt) := ⟨rfl, rfl, rfl, by decide +kernel, rfl, by decide +kernel, by decide +kernel⟩
/-- a def with its promise -/
def HasD (P : Program) (w : World) (K : PySem.W.Frag) (mg : Str → Option Value) (base : Heap) (k : Nat) (x : Str) (ps : List Str) (sp : Sp) : Prop := ∃ (f : Addr) (fd : FuncData), Def P w K mg base k x f fd ps sp
def HasM (P : Program) (w : World) (K : PySem.W.Frag) (mg : Str → Option Value) (base : Heap) (CX : CXT) (k : Nat) (C : Addr) (x : Str) (ps : List Str) (sp : Sp) : Prop := ∃ (f : Addr) (fd : FuncData), Meth K C x f ∧ FnOk P w K mg base CX k f fd ps sp ∧ Binds K fd ps []
def HasSaid (K : PySem.W.Frag) (mg : Str → Option Value) : Prop := ∃ (fS : Addr) (oc kV doc pm cd ct : Value) (an od : Option Addr) (osl : Array (Option Value)),
  K.lookup fS = some ⟨oc, od, .func (PySem.W.fnOf "_law_said" "_law_said" (defArgs sSaid) (defBody sSaid) (defScope sSaid) .none kV doc pm an cd ct), osl⟩ ∧ PySem.W.codeIn K cd "_law_said" = true ∧ PySem.W.keepIn K (.ref fS) = true ∧ mg "_law_said" = some (.ref fS) ∧
  Binds K (PySem.W.fnOf "_law_said" "_law_said" (defArgs sSaid) (defBody sSaid) (defScope sSaid) .none kV doc pm an cd ct) ["_law_ask"] []
structure TxtRt (P : Program) (w : World) (K : PySem.W.Frag) (mg : Str → Option Value) (base : Heap) (CW CK CT CG CU Pt c : Addr) : Prop where
  ne : CW ≠ CK
  tw : TxtW K mg CW
  tc : TxtC K mg CT CG CU
  dict : mg "dict" = none
  range : mg "range" = none
  TB : TabB base mg c Pt
  said : HasSaid K mg
  draw : HasD P w K mg base 1 "_law_draw" ["_law_well_here", "_law_often"] spDraw
  one : HasD P w K mg base 2 "_law_one" ["_law_well_here", "_law_some"] (spOne K)
  nam : HasD P w K mg base 3 "_law_naming" PNm (spNm K)
  key : HasD P w K mg base 6 "_law_key" ["_law_value"] (spKey K 5)
  lmk : HasD P w K mg base 3 "_law_make" PLMk (spLMk K)
  ldes : HasD P w K mg base 8 "_law_destroy" PLD (spLD K)
  alike : HasD P w K mg base 8 "_law_alike" PAl (spAl K CW)
  wmk : HasM P w K mg base CX0 6 CW "make" ["self", "kind", "given"] (spMake K CW CK)
  wdes : HasM P w K mg base (L2.CX P w) 6 CW "destroy" ["self", "tag"] (spDes K CW CK CG CU)
theorem tagR_tg {r : Ro} (h : r.kind = kname (koR r)) : tagR r = tgD (TgR r) := by
  show tagOf r.kind r.n = tagOf (kname (koR r)) r.n
  rw [← h]
theorem map_tagR {rows : List Ro} (h : ∀ r ∈ rows, r.kind = kname (koR r)) : rows.map tagR = (rows.map TgR).map tgD := by
  rw [List.map_map]
  exact List.map_congr_left fun r hr => tagR_tg (h r hr)
structure RowsOk (rows : List Ro) (last : Nat) : Prop where
  okl : ∀ r ∈ rows, OkL r
  nd : (rows.map TgR).Nodup
  le : ∀ r ∈ rows, r.n ≤ last
theorem RowsOk.kd {rows : List Ro} {last : Nat} (h : RowsOk rows last) : ∀ r ∈ rows, r.kind = kname (koR r) := fun r hr => ((h.okl r hr).w true).kd
theorem RowsOk.ok {rows : List Ro} {last : Nat} (h : RowsOk rows last) : ∀ r ∈ rows, OkR r := fun r hr => ((h.okl r hr).w true).ok
theorem RowsOk.pos {rows : List Ro} {last : Nat} (h : RowsOk rows last) : ∀ t ∈ rows.map TgR, 1 ≤ t.2 := fun t ht => by
  obtain ⟨r, hr, rfl⟩ := List.mem_map.mp ht
  exact (h.ok r hr).n
theorem RowsOk.add {rows : List Ro} {last : Nat} {ko : Bool} {a b c : Vn} (h : RowsOk rows last) (ha : vOk a) (hb : vOk b) (hc : vOk c) : RowsOk (rows ++ [newR ko last (vD a) (vD b) (vD c)]) (nextL ko last) := by
  have nx : last + 1 ≤ nextL ko last := by unfold nextL; split <;> omega
  refine ⟨fun r hr => ?_, ?_, fun r hr => ?_⟩
  · rcases List.mem_append.mp hr with hr | hr
    · exact h.okl r hr
    · rw [List.mem_singleton.mp hr]
      exact ⟨ko, last, a, b, c, rfl, ha, hb, hc⟩
  · rw [List.map_append]
    refine List.nodup_append.mpr ⟨h.nd, by simp, fun t ht u hu e => ?_⟩
    rw [List.map_cons, List.map_nil, List.mem_singleton] at hu
    obtain ⟨r, hr, rfl⟩ := List.mem_map.mp ht
    have e2 : r.n = last + 1 := congrArg Prod.snd (e.trans hu)
    have := h.le r hr
    omega
  · rcases List.mem_append.mp hr with hr | hr
    · exact Nat.le_trans (h.le r hr) (by omega)
    · rw [List.mem_singleton.mp hr]
      exact nx
theorem kl_told (t : Tg) : kl (.tup [.str "told", tgD t]) = [.str "tuple", .tup [.str "other", .str "told"], .tup [.str "tuple", .tup [.str "other", .str "#"], .tup [.str "other", .str (kname t.1)], .tup [.str "integer", .int (t.2 : Int)]]] := by
  simp [kl, keyD, keyL, tgD, tagOf]
theorem told_ok (t : Tg) : plnL (kl (.tup [.str "told", tgD t])) = true ∧ dpL (kl (.tup [.str "told", tgD t])) ≤ 30 ∧ kpt Kall (.tup (kl (.tup [.str "told", tgD t]))) = true ∧ lyk 5 (.tup [.str "told", tgD t]) = true := by
  rw [kl_told]
  refine ⟨by simp [plnL, pln], by simp [dpL, dp], by simp [kpt, kptL], by simp [lyk, nolL, nol, tgD, tagOf]⟩
theorem pln_kn {l : List D5} (p : plnL l = true) : ∀ j, j < l.length → j < l.length → (eqv5 (l.getD j .non) (l.getD j .non)).isSome = true := fun j h _ => by
  rw [eqv_self _ (plnL_mem p _ (by rw [List.getD_eq_getElem?_getD, List.getElem?_eq_getElem h]; exact List.getElem_mem h))]
  rfl
theorem Paired.snoc {α β : Type} {R : α → β → Prop} {x : α} {y : β} {xs : List α} {ys : List β} (h : Paired R xs ys) (r : R x y) : Paired R (xs ++ [x]) (ys ++ [y]) := by
  induction h with
  | nil => exact .cons r .nil
  | cons a _ ih => exact .cons a ih
theorem Paired.imp2 {α β : Type} {R R' : α → β → Prop} (f : ∀ a b, R a b → R' a b) {xs : List α} {ys : List β} (h : Paired R xs ys) : Paired R' xs ys := by
  induction h with
  | nil => exact .nil
  | cons a _ ih => exact .cons (f _ _ a) ih
/-- the slots in the first walk -/
def Sl1 (w aw am : Addr) (x5 : Option V) (σ : L2.St) : Prop := ∃ x1 x2 x6 x7 x8 x9 x10 x11 x12 : Option V, σ = [some (.ref w), x1, x2, some (.ref aw), some (.ref am), x5, x6, x7, x8, x9, x10, x11, x12, none, none]
def T1 (K : PySem.W.Frag) (CW CK Pt : Addr) : TS := fun D σ H => ∃ (Hb : Hp) (w aw kd sd am tb rl : Addr) (hb : Bool) (rows : List Ro) (last : Nat) (z : Int) (x5 : Option V), Sl1 w aw am x5 σ ∧ Cur K CW CK Pt Hb H w aw kd sd am tb rl hb rows last rows last z ∧ RowsOk rows last ∧ rows.length ≤ 100 ∧ 0 ≤ z ∧ z < 800000 ∧
  ∀ σ' H' r last' z', Sl1 w aw am x5 σ' → Cur K CW CK Pt Hb H' w aw kd sd am tb rl hb (rows ++ [r]) last' (rows ++ [r]) last' z' → RowsOk (rows ++ [r]) last' → z ≤ z' → z' ≤ z + 20 → D.nx σ' H'
section
variable {P : Program} {w : World} {K : PySem.W.Frag} {mg : Str → Option Value} {base : Heap} {CW CK CT CG CU Pt c : Addr}
theorem part1 {f : Addr} {A : Around} {outer : List Env} {s : Shared} {H0 : Hp} {E : XK} (R : TxtRt P w K mg base CW CK CT CG CU Pt c) (hr : Room 8 (cxOf CX0 P w K mg base NRt "_law_right" (defScope sRt) f (.ref c) A outer s H0 E).nox.A) :
    PSs (cxOf CX0 P w K mg base NRt "_law_right" (defScope sRt) f (.ref c) A outer s H0 E).nox (bodyOf ((defBody sRt).getD 4 (.Pass ⟨0, 0, 0, 0⟩))) (T1 K CW CK Pt) := by
  obtain ⟨f1, fd1, D1⟩ := R.one
  obtain ⟨fN, fdN, DN⟩ := R.nam
  obtain ⟨fK, fdK, DK⟩ := R.key
  obtain ⟨fM, fdM, DM⟩ := R.lmk
  obtain ⟨fW, fdW, MW, GW, bW⟩ := R.wmk
  obtain ⟨fS, oc, kVs, doc, pm, cd, ct, an, od, osl, lkS, hcS, kpS, gS, bS⟩ := R.said
  have hu := hu_of hr
  refine pss_by (pss_cons (ps_set (i := 7) scRt.nd rfl (Or.inr rfl) (pe_call D1.ok (hr.mono (by decide)) rfl D1.g D1.kp D1.b .nil pass0 (pa_cons (pv 0) (pa_cons (pe_lst (pa_cons pe_str (pa_cons pe_str pa_nil))) pa_nil))))
    (pss_cons (ps_set (i := 8) scRt.nd rfl (Or.inr rfl) (pe_op op_cat (pe_lc (own := [("_law_row_here", 14)]) (g := gName 14) (tt := tYes) rfl scRt.nd (pi_list (pe_dget hu (pv 4) pe_str (fun _ _ => rfl))) (blkOk_by (N := NRt) (sc := defScope sRt) (by decide +kernel)) (fun _ _ _ _ _ => pg_name (i := 14) scRt.nd rfl (Or.inl rfl)) (fun _ _ _ _ _ => pts_nil) (fun _ _ _ _ _ => pe_ix (show IxR _ (rIxL K) from ix_list) (pv 14) pe_int (fun _ _ => rfl)))
        (pe_lst (pa_cons (pe_tup (pa_cons pe_str (pa_cons (pv 7) (pa_cons (pe_op op_add (pe_dget hu (pv 4) pe_str (fun _ _ => rfl)) pe_int) pa_nil)))) (pa_cons (pe_tup (pa_cons pe_str (pa_cons pe_str (pa_cons pe_int pa_nil)))) pa_nil)))))
    (pss_cons (ps_set (i := 9) scRt.nd rfl (Or.inr rfl) (pe_callTy (call_dictP rfl) (by rfl) R.dict (by decide +kernel) (pa_cons (pe_lc (own := [("_law_name", 13)]) (g := gName 13) (tt := tYes) rfl scRt.nd (pi_tup (pe_tup (pa_cons pe_str (pa_cons pe_str (pa_cons pe_str pa_nil))))) (blkOk_by (N := NRt) (sc := defScope sRt) (by decide +kernel)) (fun _ _ _ _ _ => pg_name (i := 13) scRt.nd rfl (Or.inl rfl)) (fun _ _ _ _ _ => pts_nil)
        (fun _ _ _ _ _ => pe_tup (pa_cons (pv 13) (pa_cons (pe_call DN.ok (hr.mono (by decide)) rfl DN.g DN.kp DN.b .nil pass0 (pa_cons (pv 0) (pa_cons (pv 8) pa_nil))) pa_nil)))) pa_nil)))
    (pss_one (ps_if (pt_cmpR (show OpR _ _ (rNe5 K) from op_ne5 (hu64 hr)) (pe_call DK.ok (hr.mono (by decide)) rfl DK.g DK.kp DK.b .nil pass0 (pa_cons (pe_lamcall (k := 6) (T := [(Pt, qL)]) (t := fun E => tMeth CW "make" (spMake K CW CK) [] E0 (tVar 3) (tCons (tVar 7) (tCons (tVar 9) tNil))) rfl gS kpS lkS hcS bS scSaid rfl (.inl rfl) (said_gives R.tc) R.TB rfl (List.mem_singleton.mpr rfl) (fun p hp _ => by rw [List.mem_singleton.mp hp]; rfl) hr (lamS_by (sc := defScope sRt) (by decide +kernel)) rfl (fun _ _ _ _ _ => rfl)
          (fun A outer s H E f c' hr' => pe_meth (pv 3) R.tw.cl MW GW hr' bW .nil pass0 (pa_cons (pv 7) (pa_cons (pv 9) pa_nil)))) pa_nil))
        (pe_call DK.ok (hr.mono (by decide)) rfl DK.g DK.kp DK.b .nil pass0 (pa_cons (pe_call DM.ok (hr.mono (by decide)) rfl DM.g DM.kp DM.b .nil pass0 (pa_cons (pv 4) (pa_cons (pv 7) (pa_cons (pv 9) pa_nil)))) pa_nil)) (nomark _)) (pss_one (ps_ret pe_bl)) pss_nil))))) ?_
  intro D σ H ⟨Hb, w, aw, kd, sd, am, tb, rl, hb, rows, last, z, x5, ⟨x1, x2, x6, x7, x8, x9, x10, x11, x12, eσ⟩, cur, ro, rl1, z0, z1, q⟩
  subst eσ
  have P := kps5 (K := K)
  -- the kind
  refine ⟨_, rfl, by show 2 ≤ sizeLine; decide, fun L nL => ?_⟩
  have cur1 := cur.same (sm_upd (o := .lst [V.str "k", V.str "other"]) nL)
  refine ⟨w, L, z, _, rfl, cur1.well, upd_same, wellNe cur.well nL, by show 0 < 2; decide, by show 2 < 1000000; decide, z0, by omega, fun v za H1 hv za1 za2 hwA bA => ?_⟩
  obtain ⟨ko, rfl⟩ : ∃ ko, v = .str (kname ko) := by
    simp only [List.mem_cons, List.not_mem_nil, or_false] at hv
    rcases hv with rfl | rfl
    · exact ⟨false, rfl⟩
    · exact ⟨true, rfl⟩
  have cur2 := cur1.draw R.ne bA hwA
  clear cur1 hv bA hwA nL cur
  show tSeq _ _ _ [some (.ref w), x1, x2, some (.ref aw), some (.ref am), x5, x6, some (.str (kname ko)), x8, x9, x10, x11, x12, none, none] H1
  -- the Tags
  obtain ⟨vs, erl, mr⟩ := cur2.md.r
  have eR := ed_rowtags (K := K) (i := 14) (σ := [some (.ref w), x1, x2, some (.ref aw), some (.ref am), x5, x6, some (.str (kname ko)), x8, x9, x10, x11, x12, none, none]) erl mr (by omega) (ep_rows (i := 4) cur2.md rfl) (fun u => rfl) (fun u => rfl)
  have eN : ED (O5 K) (tOp (rI0 fun i j => .int (i + j)) (tDGet (tVar 4) (tC (.str "told"))) (tC (.int 1))) [some (.ref w), x1, x2, some (.ref aw), some (.ref am), x5, x6, some (.str (kname ko)), x8, x9, x10, x11, x12, none, none] H1 (.int ((last + 1 : Nat) : Int)) := fun H' s' Q' q' =>
    ⟨_, rfl, am, .int last, rfl, .inl ⟨_, .inr "told", .inl (s' _ _ cur2.md.m), rfl, mkv3.symm⟩, last, 1, rfl, rfl, q' _ _ (Same.refl _) rfl⟩
  have eT := ed_lst (K := K) P (ea_cons P (ed_tup P (ea_cons P (ed_str (s := "#")) (ea_cons P (ed_pv P (i := 7) (d := .str (kname ko)) rfl rfl) (ea_cons P eN ea_nil))) (by simp)) (ea_cons P (ed_tup P (ea_cons P (ed_str (s := "#")) (ea_cons P (ed_str (s := "k")) (ea_cons P (ed_int (i := 50)) ea_nil))) (by simp)) ea_nil)) (by simp)
  refine ED.seq (ed_cat P eR eT (by rw [List.length_map]; simp; omega)) fun lv H2 s2 hl => ?_
  obtain ⟨L2, us, rfl, eL, hus⟩ := hl
  have cur3 := cur2.same s2
  clear eR eT eN mr erl s2 cur2
  have hts : DvL (O5 K) H2 ((rows.map TgR ++ [(ko, last + 1), (false, 50)]).map tgD) us := by
    rw [List.map_append, ← map_tagR ro.kd]
    exact hus
  have tok : ∀ t ∈ rows.map TgR ++ [(ko, last + 1), (false, 50)], 1 ≤ t.2 := fun t ht => by
    rcases List.mem_append.mp ht with ht | ht
    · exact ro.pos t ht
    · simp only [List.mem_cons, List.not_mem_nil, or_false] at ht
      rcases ht with rfl | rfl
      · show 1 ≤ last + 1; omega
      · show 1 ≤ 50; omega
  have tlen : (rows.map TgR ++ [(ko, last + 1), (false, 50)]).length ≤ 10000 := by rw [List.length_append, List.length_map]; simp; omega
  have tne : rows.map TgR ++ [(ko, last + 1), (false, 50)] ≠ [] := by simp
  clear hus
  generalize rows.map TgR ++ [(ko, last + 1), (false, 50)] = ts at hts tok tlen tne
  have tkp : kptL Kall (ts.map tgD) = true := kptL_all fun d hd => by obtain ⟨t, _, rfl⟩ := List.mem_map.mp hd; rfl
  have nLw : L2 ≠ w := fun e => by
    obtain ⟨x, y, hx⟩ := cur3.well
    rw [e, hx] at eL
    cases eL
    cases ts with
    | nil => exact tne rfl
    | cons t ts =>
      obtain ⟨u, us', e1, ⟨a, _, e2, _⟩, _⟩ := hts
      cases e1
      cases e2
  show tSeq _ _ _ [some (.ref w), x1, x2, some (.ref aw), some (.ref am), x5, x6, some (.str (kname ko)), some (.ref L2), x9, x10, x11, x12, none, none] H2
  -- what is given
  refine ⟨by show 3 ≤ sizeLine; decide, fun T nT => ?_⟩
  have sT := sm_upd (o := .tup [V.str "a", V.str "b", V.str "c"]) nT
  have eT0 : (upd H2 T (.tup [V.str "a", V.str "b", V.str "c"])) T = some (.tup [V.str "a", V.str "b", V.str "c"]) := upd_same
  generalize upd H2 T (.tup [V.str "a", V.str "b", V.str "c"]) = H3 at sT eT0
  have cur4 := cur3.same sT
  have eL3 := sT _ _ eL
  have hts3 := P.dvl sT hts
  refine ⟨T, rfl, ⟨_, SqT.of eT0⟩, fun DD nDD => ?_⟩
  have nDw : DD ≠ w := wellNe cur4.well nDD
  have nDn : NewF Hb DD := .of cur4.fb cur4.well nDD
  have nDr : DD ≠ rl := fun e => by
    obtain ⟨vs, erl, _⟩ := cur4.md.r
    rw [e, erl] at nDD
    cases nDD
  have nDL : DD ≠ L2 := fun e => by rw [e, eL3] at nDD; cases nDD
  have nDT : DD ≠ T := fun e => by rw [e, eT0] at nDD; cases nDD
  have nTw : T ≠ w := fun e => by
    obtain ⟨x, y, hx⟩ := cur4.well
    rw [e, hx] at eT0
    cases eT0
  have aptP : ∀ ps : List Addr, Apt CK (.lst (ps.map V.ref)) := fun ps => apt_lst fun t k d e => by
    have := congrArg (fun l => l[1]?) e
    simp only [List.getElem?_map, List.getElem?_cons_succ, List.getElem?_cons_zero] at this
    cases h : ps[1]? with
    | none => rw [h] at this; cases this
    | some a => rw [h] at this; cases this
  refine lc_it (walk_tup (K := K) (a := T) (xs := [V.str "a", V.str "b", V.str "c"])) (fun i H' => ∃ (z' : Int) (ps : List Addr) (kvs : List (Key × V)) (xs : List Vn), Cur K CW CK Pt Hb H' w aw kd sd am tb rl hb rows last rows last z' ∧ za ≤ z' ∧ z' ≤ za + 3 * i ∧ H' T = some (.tup [V.str "a", V.str "b", V.str "c"]) ∧ H' L2 = some (.lst us) ∧ DvL (O5 K) H' (ts.map tgD) us ∧
      H' DD = some (.lst (ps.map V.ref)) ∧ ps.length = i ∧ Paired (fun p kv => H' p = some (.tup [kV kv.1, kv.2])) ps kvs ∧ kvs.map (·.1) = (abc.take i).map Sum.inr ∧ DvL (O5 K) H' (xs.map vD) (kvs.map (·.2)) ∧ xs.length = i ∧ ∀ x ∈ xs, vOk x)
    ⟨za, [], [], [], cur4.same (sm_upd nDD), by omega, by omega, sm_upd nDD _ _ eT0, sm_upd nDD _ _ eL3, P.dvl (sm_upd nDD) hts3, upd_same, rfl, .nil, rfl, rfl, rfl, fun x hx => nomatch hx⟩
    (fun i H' _ h => by obtain ⟨_, _, _, _, _, _, _, h, _⟩ := h; exact SqT.of h) (fun i u H4 H4' hi h y => ?_) (fun H4 h => ?_)
  · obtain ⟨z', ps, kvs, xs, cu, zz1, zz2, hT, hL, hd, hDD, lp, pr, ek, ev, lx, ok⟩ := h
    obtain ⟨rfl, eu⟩ := y
    have hi : i < 3 := hi
    obtain ⟨nm, rfl, enm⟩ : ∃ nm : Str, u = .str nm ∧ abc[i]? = some nm := by
      match i, eu with
      | 0, eu => cases eu; exact ⟨_, rfl, rfl⟩
      | 1, eu => cases eu; exact ⟨_, rfl, rfl⟩
      | 2, eu => cases eu; exact ⟨_, rfl, rfl⟩
      | i + 3, eu => cases eu
    refine ⟨rfl, _, rfl, _, rfl, _, rfl, w, L2, z', us, ts, rfl, cu.well, by omega, by omega, hL, nLw, hd, tne, tlen, tok, fun v x z'' H5 hv okx zv1 zv2 hw5 b5 => ⟨by show 2 ≤ sizeLine; decide, fun p np => ?_⟩⟩
    have cu5 := cu.draw R.ne b5 hw5
    have al5 : ∀ a ∈ [w], ∀ o, H4' a = some o → Apt CK o := fun a m o e => cu.apt R.ne a (by rw [List.mem_singleton.mp m]; simp) o e
    have cm5 : Calm CK H4' H5 := .ch (.but b5) al5
    have s6 := sm_upd (o := .tup [V.str nm, v]) np
    have ep6 : (upd H5 p (.tup [V.str nm, v])) p = some (.tup [V.str nm, v]) := upd_same
    generalize upd H5 p (.tup [V.str nm, v]) = H6 at s6 ep6
    have cu6 := cu5.same s6
    have hDD6 := s6 _ _ (b5 _ _ hDD nDw)
    have c7 : Ch [DD] H6 (upd H6 DD (.lst (ps.map V.ref ++ [.ref p]))) := .upd (by simp)
    have al7 : ∀ a ∈ [DD], ∀ o, H6 a = some o → Apt CK o := fun a m o e => by rw [List.mem_singleton.mp m, hDD6] at e; cases e; exact aptP ps
    have cm7 : Calm CK H6 (upd H6 DD (.lst (ps.map V.ref ++ [.ref p]))) := .ch c7 al7
    have cm : Calm CK H4' (upd H6 DD (.lst (ps.map V.ref ++ [.ref p]))) := cm5.trans ((Calm.same s6).trans cm7)
    have cm6 : Calm CK H5 (upd H6 DD (.lst (ps.map V.ref ++ [.ref p]))) := (Calm.same s6).trans cm7
    have kx : ∀ x : Vn, kpt Kall (vD x) = true := fun x => kpt_mono (by decide +kernel) _ (vD_kpt x)
    refine ⟨ps.map V.ref, hDD6, by rw [List.length_map, lp]; exact Nat.lt_of_lt_of_le hi (by decide), z'', ps ++ [p], kvs ++ [(.inr nm, v)], xs ++ [x], cu6.side hDD6 (aptP ps) nDw nDr nDn, by omega, by push_cast; omega, cm.t _ _ hT, (upd_ne (Ne.symm nDL)).trans (s6 _ _ (b5 _ _ hL nLw)), DvL.calm cm _ _ tkp hd, ?_, by rw [List.length_append, lp]; rfl, ?_, ?_, ?_, by rw [List.length_append, lx]; rfl, fun y hy => ?_⟩
    · rw [upd_same, List.map_append]
      rfl
    · refine Paired.snoc ?_ (cm7.t _ _ ep6)
      exact Paired.imp2 (fun a b h => cm.t _ _ h) pr
    · rw [List.map_append, ek, List.take_succ, enm, List.map_append]
      rfl
    · rw [List.map_append, List.map_append]
      exact DvL.snoc (Dv.calm cm6 _ _ (kx x) hv) (DvL.calm cm _ _ (kptL_all fun d hd => by obtain ⟨x, _, rfl⟩ := List.mem_map.mp hd; exact kx x) ev)
    · rcases List.mem_append.mp hy with hy | hy
      · exact ok y hy
      · rw [List.mem_singleton.mp hy]; exact okx
  · obtain ⟨z', ps, kvs, xs, cu, zz1, zz2, hT, hL, hd, hDD, lp, pr, ek, ev, lx, ok⟩ := h
    obtain ⟨a, b, c', rfl⟩ : ∃ a b c, xs = [a, b, c] := by
      match xs, lx with
      | [a, b, c], _ => exact ⟨a, b, c, rfl⟩
    have zz3 : z' ≤ za + 3 * (3 : Int) := zz2
    have ha := ok a (by simp)
    have hb' := ok b (by simp)
    have hc := ok c' (by simp)
    refine ⟨DD, ps, kvs, rfl, SqL.of hDD, ?_, fun g ng => ?_⟩
    · exact Paired.imp2 (fun a b h => SqT.of h) pr
    have ek3 : kvs.map (·.1) = abc.map Sum.inr := ek
    have nd3 : (kvs.map (·.1)).Nodup := by rw [ek3]; decide +kernel
    rw [merge_nd kvs [] (by simpa using nd3), List.nil_append]
    have sg := sm_upd (o := .dK kvs) ng
    have eg : (upd H4 g (.dK kvs)) g = some (.dK kvs) := upd_same
    generalize upd H4 g (.dK kvs) = H5 at sg eg
    have hg : Dv (O5 K) H5 (.map abc [vD a, vD b, vD c']) (.ref g) := ⟨g, kvs, rfl, eg, by decide +kernel, ek3, P.dvl sg ev⟩
    have cu5 := cu.same sg
    clear pr ek ev hDD hL hT hd ek3 nd3 sg eg
    -- it is made
    refine ⟨cu5.tbs, fun H6 eN tT => ?_⟩
    have cu6 := cu5.ext eN tT
    have kg : kpt Kall (.map abc [vD a, vD b, vD c']) = true := by
      have kx : ∀ x : Vn, kpt Kall (vD x) = true := fun x => kpt_mono (by decide +kernel) _ (vD_kpt x)
      have d1 : decide (abc ∈ Kall) = true := by decide +kernel
      simp [kpt, kptL, kx, d1]
    have hg6 := Dv.calm (Calm.ext (CK := CK) eN) _ _ kg hg
    obtain ⟨dx, ew⟩ := cu6.wd.w
    have lkn : ∀ {nm : Str} {n : Int}, (nm == "_kinds") = false → (nm == "_standing") = false → (nm == "_last") = false → (wfl kd sd n).lookup nm = none := fun a b c => (lk_tl a).trans ((lk_tl b).trans ((lk_tl c).trans rfl))
    refine ⟨_, rfl, aw, dx, _, rfl, ew, lkn (by decide +kernel) (by decide +kernel) (by decide +kernel), _, rfl, _, rfl, aw, kd, sd, .ref g, rows, last, hb, ko, vD a, vD b, vD c', rfl, cu6.wd, cu6.kk, hg6, vD_okV a, vD_okV b, vD_okV c', ro.ok, ro.le, by omega, fun bt H7 c7 wd7 e7 => ⟨by show 2 ≤ sizeLine; decide, fun t nt => ?_⟩⟩
    have ro' := ro.add (ko := ko) ha hb' hc
    have cm7 := cu6.calmW R.ne c7
    have cu7 := (cu6.made R.ne c7 wd7 ro'.ok)
    have hg7 := Dv.calm cm7 _ _ kg hg6
    have s8 := sm_upd (o := .tup [V.str "told", .ref bt]) nt
    have e8 : (upd H7 t (.tup [V.str "told", .ref bt])) t = some (.tup [V.str "told", .ref bt]) := upd_same
    generalize upd H7 t (.tup [V.str "told", .ref bt]) = H8 at s8 e8
    have cu8 := cu7.same s8
    obtain ⟨k1, k2, k3, k4⟩ := told_ok (ko, last + 1)
    have tdv : ∀ {H9 : Hp} {p b : Addr}, H9 p = some (.tup [V.str "told", .ref b]) → H9 b = some (.tup [.str "#", .str (kname ko), .int ((last + 1 : Nat) : Int)]) → Dv (O5 K) H9 (.tup [.str "told", tgD (ko, last + 1)]) (.ref p) := fun h1 h2 =>
      ⟨_, _, rfl, .inl (.inl h1), _, _, rfl, rfl, _, _, rfl, ⟨_, _, rfl, .inl (.inl h2), _, _, rfl, rfl, _, _, rfl, rfl, _, _, rfl, rfl, rfl⟩, rfl⟩
    refine ⟨.ref t, .tup [.str "told", tgD (ko, last + 1)], rfl, tdv e8 (s8 _ _ e7), k4, fun v1 H9 s9 hv1 => ?_⟩
    rw [keyD_tup] at hv1
    have cu9 := cu8.same s9
    have hg9 := P.dv (Same.trans s8 s9) hg7
    refine ⟨_, rfl, _, rfl, _, rfl, am, tb, rl, .ref g, rows, last, hb, ko, vD a, vD b, vD c', rfl, cu9.md, hg9, vD_okV a, vD_okV b, vD_okV c', by omega, ro.kd, ro.ok, fun p2 b2 H10 c10 md10 e10 e11 => ?_⟩
    have cm10 := cu9.calmM R.ne c10
    have cu10 := cu9.lmade R.ne c10 md10 ro'.ok cu9.nb.2.2.2
    have hv10 := Dv.calm cm10 _ _ k3 hv1
    refine ⟨.ref p2, .tup [.str "told", tgD (ko, last + 1)], rfl, tdv e11 e10, k4, fun v2 H11 s11 hv2 => ?_⟩
    rw [keyD_tup] at hv2
    refine ⟨_, _, true, P.dv s11 hv10, hv2, eqvL_self _ k1, pln_kn k1, k2, _, rfl, Vl.iteN rfl ?_⟩
    exact q _ H11 _ _ z' ⟨_, _, _, _, _, _, _, _, _, rfl⟩ (cu10.same s11) ro' (by omega) (by omega)
end
end Kd

set_option Elab.async false
set_option linter.all false
set_option maxRecDepth 100000
set_option maxHeartbeats 4000000
/-! _law_right: what is destroyed, and what not -/
namespace Kd
open PySem PySem.Spec PyProof.Rows L2 Dq Vl Pf Ed ClX LamX
/-- objects that stay in the second walk -/
def Od (o : HO) : Prop := (∃ xs, o = .tup xs) ∨ (∃ xs, o = .lst xs ∧ ∀ x y z : Int, xs ≠ [.int x, .int y, .int z]) ∨ o = .dK [] ∨ ∃ C dx fs, o = .ins C dx fs
def KeepOd (H H' : Hp) : Prop := ∀ b o, H b = some o → Od o → H' b = some o
theorem KeepOd.trans {H H' H2 : Hp} (a : KeepOd H H') (b : KeepOd H' H2) : KeepOd H H2 := fun c o e h => b c o (a c o e h) h
theorem KeepOd.same {H H' : Hp} (s : Same H H') : KeepOd H H' := fun b o e _ => s b o e
theorem KeepOd.ext {H H' : Hp} (s : ExtN H H') : KeepOd H H' := fun b o e h => s b o e fun ps q => by
  subst q
  rcases h with ⟨_, h⟩ | ⟨_, h, _⟩ | h | ⟨_, _, _, h⟩ <;> cases h
theorem KeepOd.but {H H' : Hp} {w : Addr} {z : Int} (hw : WellAt H w z) (b : But w H H') : KeepOd H H' := fun c o e h => b c o e fun q => by
  obtain ⟨x, y, e0⟩ := hw
  rw [q, e0] at e
  cases e
  rcases h with ⟨_, h⟩ | ⟨xs, h, n⟩ | h | ⟨_, _, _, h⟩
  · cases h
  · cases h
    exact n _ _ _ rfl
  · cases h
  · cases h
theorem KeepOd.sd {H H' : Hp} {sd : Addr} {kvs : List (List Key × V)} (e : H sd = some (.dT kvs)) (c : Ch [sd] H H') : KeepOd H H' := fun b o eb h => c b o eb fun m => by
  rw [List.mem_singleton.mp m, e] at eb
  cases eb
  rcases h with ⟨_, h⟩ | ⟨xs, h, n⟩ | h | ⟨_, _, _, h⟩ <;> cases h
theorem KeepOd.am {H H' : Hp} {am tb rl : Addr} {n : Int} (e : H am = some (.dK (mkv tb rl n))) (c : Ch [am] H H') : KeepOd H H' := fun b o eb h => c b o eb fun m => by
  rw [List.mem_singleton.mp m, e] at eb
  cases eb
  rcases h with ⟨_, h⟩ | ⟨xs, h, n⟩ | h | ⟨_, _, _, h⟩ <;> cases h
/-- what is destroyed, or tried to -/
inductive OA (K : PySem.W.Frag) (H : Hp) : D5 → V → Prop
  | non : OA K H .non .non
  | x : OA K H (.str "x") (.str "x")
  | three : OA K H (.int 3) (.int 3)
  | tag (t : Tg) (b : Addr) (h : H b = some (.tup [.str "#", .str (kname t.1), .int (t.2 : Int)])) (h1 : 1 ≤ t.2) : OA K H (tgD t) (.ref b)
  | tT (b : Addr) (h : H b = some (.tup [.str "#", .str "k", .bl true])) : OA K H (.tup [.str "#", .str "k", .bl true]) (.ref b)
  | e (b : Addr) (h : H b = some (.lst [])) : OA K H (.lst []) (.ref b)
  | m (b : Addr) (h : H b = some (.dK [])) : OA K H (.map [] []) (.ref b)
  | wd (a C dx : Addr) (fs : List (Str × V)) (h : H a = some (.ins C dx fs)) (i : InsT K C) : OA K H (.ob ()) (.ref a)
section
variable {K : PySem.W.Frag} {H H' : Hp} {d : D5} {v : V}
theorem OA.keep (k : KeepOd H H') (h : OA K H d v) : OA K H' d v := by
  cases h with
  | non => exact .non
  | x => exact .x
  | three => exact .three
  | tag t b h h1 => exact .tag t b (k _ _ h (.inl ⟨_, rfl⟩)) h1
  | tT b h => exact .tT b (k _ _ h (.inl ⟨_, rfl⟩))
  | e b h => exact .e b (k _ _ h (.inr (.inl ⟨_, rfl, fun x y z q => nomatch q⟩)))
  | m b h => exact .m b (k _ _ h (.inr (.inr (.inl rfl))))
  | wd a C dx fs h i => exact .wd a C dx fs (k _ _ h (.inr (.inr (.inr ⟨_, _, _, rfl⟩)))) i
theorem OA.noF (h : OA K H d v) : noF v = true := by cases h <;> rfl
theorem OA.dv (h : OA K H d v) : Dv (O5 K) H d v := by
  cases h with
  | non => rfl
  | x => rfl
  | three => rfl
  | tag t b h h1 => exact ⟨b, _, rfl, .inl (.inl h), _, _, rfl, rfl, _, _, rfl, rfl, _, _, rfl, rfl, rfl⟩
  | tT b h => exact ⟨b, _, rfl, .inl (.inl h), _, _, rfl, rfl, _, _, rfl, rfl, _, _, rfl, rfl, rfl⟩
  | e b h => exact ⟨b, _, rfl, h, rfl⟩
  | m b h => exact ⟨b, _, rfl, h, List.nodup_nil, rfl, rfl⟩
  | wd a C dx fs h i => exact ⟨a, C, dx, fs, rfl, h, i⟩
theorem OA.lyk (h : OA K H d v) : lyk 5 d = true := by
  cases h with
  | tag t b h h1 => exact tag_lyk
  | tT b h => simp [Kd.lyk, nolL, nol]
  | e b h => rfl
  | m b h =>
    have s0 : sortedS ([] : List Str) = true := by decide +kernel
    simp [Kd.lyk, nolL, s0]
  | _ => rfl
theorem OA.targ (h : OA K H d v) : TArg K H d v := ⟨h.dv, by
  cases h with
  | tag t b h h1 => exact tg_okTag
  | tT b h => decide +kernel
  | _ => rfl, fun q => by
  cases h with
  | tag t b h h1 => exact ⟨b, kname t.1, t.2, rfl, h, rfl⟩
  | tT b h => exact absurd q (by decide +kernel)
  | non => cases q
  | x => cases q
  | three => cases q
  | e b h => cases q
  | m b h => cases q
  | wd a C dx fs h i => cases q⟩
theorem e5L_ne {a b : Str} {l m : List D5} (h : (a == b) = false) : eqvL5 (.str a :: l) (.str b :: m) = some false := by
  rw [e5L_cc, e5_ss, h, if_neg (by decide)]
theorem OA.odd (h : OA K H d v) : (∃ t : Tg, d = tgD t ∧ 1 ≤ t.2) ∨ (tagD d = false ∧ ∀ r : Ro, r.kind = kname (koR r) → eqvL5 (kl (tagR r)) (kl d) = some false) := by
  have k0 : ∀ r : Ro, ∃ l, kl (tagR r) = .str "tuple" :: l := fun r => ⟨_, kl_tag _ _⟩
  cases h with
  | tag t b h h1 => exact .inl ⟨t, rfl, h1⟩
  | non =>
    refine .inr ⟨rfl, fun r _ => ?_⟩
    obtain ⟨l, e⟩ := k0 r
    rw [e, show kl (.non : D5) = [.str "other", .non] from rfl]
    exact e5L_ne (by decide +kernel)
  | x =>
    refine .inr ⟨rfl, fun r _ => ?_⟩
    obtain ⟨l, e⟩ := k0 r
    rw [e, show kl (.str "x" : D5) = [.str "other", .str "x"] from rfl]
    exact e5L_ne (by decide +kernel)
  | three =>
    refine .inr ⟨rfl, fun r _ => ?_⟩
    obtain ⟨l, e⟩ := k0 r
    rw [e, show kl (.int 3 : D5) = [.str "integer", .int 3] from rfl]
    exact e5L_ne (by decide +kernel)
  | e b h =>
    refine .inr ⟨rfl, fun r _ => ?_⟩
    obtain ⟨l, e⟩ := k0 r
    rw [e, show kl (.lst [] : D5) = [.str "other", .lst []] from rfl]
    exact e5L_ne (by decide +kernel)
  | m b h =>
    refine .inr ⟨rfl, fun r _ => ?_⟩
    obtain ⟨l, e⟩ := k0 r
    rw [e, show kl (.map [] [] : D5) = [.str "map"] by simp [kl, keyD, keyM]]
    exact e5L_ne (by decide +kernel)
  | wd a C dx fs h i =>
    refine .inr ⟨rfl, fun r _ => ?_⟩
    obtain ⟨l, e⟩ := k0 r
    rw [e, show kl (.ob () : D5) = [.str "other", .ob ()] from rfl]
    exact e5L_ne (by decide +kernel)
  | tT b h =>
    refine .inr ⟨by decide +kernel, fun r hk => ?_⟩
    rw [show kl (tagR r) = kl (tagOf (kname (koR r)) r.n) by rw [← hk]; rfl, kl_tag, show kl (.tup [.str "#", .str "k", .bl true] : D5) = [.str "tuple", .tup [.str "other", .str "#"], .tup [.str "other", .str "k"], .tup [.str "bool", .bl true]] by simp [kl, keyD, keyL]]
    have s1 : eqv5 (.str "tuple" : D5) (.str "tuple") = some true := by rw [e5_ss]; decide +kernel
    have s2 : eqv5 (.tup [.str "other", .str "#"] : D5) (.tup [.str "other", .str "#"]) = some true := eqv_self _ (by simp [pln, plnL])
    have s3 : eqv5 (.tup [.str "other", .str (kname (koR r))] : D5) (.tup [.str "other", .str "k"]) = some (!koR r) := by cases koR r <;> decide +kernel
    have s4 : eqv5 (.tup [.str "integer", .int (r.n : Int)] : D5) (.tup [.str "bool", .bl true]) = some false := by
      rw [e5_tt]
      exact e5L_ne (by decide +kernel)
    rw [e5L_cc, if_pos s1, e5L_cc, if_pos s2, e5L_cc, s3]
    cases koR r with
    | true => rfl
    | false =>
      show (if some true = some true then _ else _) = _
      rw [if_pos rfl, e5L_cc, s4]
      rfl
end
theorem has_any {rows : List Ro} {t : Tg} (o : ∀ r ∈ rows, r.kind = kname (koR r)) (h1 : 1 ≤ t.2) : hasD rows (tgD t) = rows.any fun r => decide (TgR r = t) := by
  unfold hasD
  rw [tg_is h1, Bool.true_and]
  show (rowD rows (tagOf (kname t.1) t.2)).isSome = _
  rw [rowD_tag]
  unfold findR
  rw [Bool.eq_iff_iff, List.find?_isSome, List.any_eq_true]
  refine ⟨fun ⟨r, hr, e⟩ => ⟨r, hr, ?_⟩, fun ⟨r, hr, e⟩ => ⟨r, hr, ?_⟩⟩
  · unfold isRow at e
    rw [Bool.and_eq_true, decide_eq_true_eq, decide_eq_true_eq, o r hr, kname_inj] at e
    rw [decide_eq_true_eq]
    exact Prod.ext e.1 e.2
  · rw [decide_eq_true_eq] at e
    unfold isRow
    rw [Bool.and_eq_true, decide_eq_true_eq, decide_eq_true_eq, o r hr, kname_inj, ← e]
    exact ⟨rfl, rfl⟩
/-- the odd things -/
def OddAt (H : Hp) (lo aw : Addr) : Prop := ∃ t6 tT e m : Addr, H lo = some (.lst [.non, .str "x", .int 3, .ref t6, .ref tT, .ref e, .ref m, .ref aw]) ∧ H t6 = some (.tup [.str "#", .str "k", .int 60]) ∧ H tT = some (.tup [.str "#", .str "k", .bl true]) ∧ H e = some (.lst []) ∧ H m = some (.dK [])
theorem OddAt.keep {H H' : Hp} {lo aw : Addr} (k : KeepOd H H') : OddAt H lo aw → OddAt H' lo aw := fun ⟨t6, tT, e, m, h1, h2, h3, h4, h5⟩ =>
  ⟨t6, tT, e, m, k _ _ h1 (.inr (.inl ⟨_, rfl, fun x y z q => nomatch q⟩)), k _ _ h2 (.inl ⟨_, rfl⟩), k _ _ h3 (.inl ⟨_, rfl⟩), k _ _ h4 (.inr (.inl ⟨_, rfl, fun x y z q => nomatch q⟩)), k _ _ h5 (.inr (.inr (.inl rfl)))⟩
theorem RowsOk.drop {rows : List Ro} {last : Nat} {t : Tg} (h : RowsOk rows last) : RowsOk (dropR rows t) last :=
  ⟨fun r hr => h.okl r (List.mem_filter.mp hr).1, h.nd.sublist (List.Sublist.map TgR List.filter_sublist), fun r hr => h.le r (List.mem_filter.mp hr).1⟩
section
variable {P : Program} {w0 : World} {K : PySem.W.Frag} {mg : Str → Option Value} {base : Heap} {CW CK CT CG CU Pt c : Addr}
/-- _law_said(lambda: world.destroy(tag)) -/
theorem des_said {Hb H : Hp} {w aw kd sd am tb rl : Addr} {hb : Bool} {rows rs2 : List Ro} {last n2 : Nat} {z : Int} {d : D5} {v : V} {σ : L2.St} {Q : VK} (ne : CW ≠ CK) (cur : Cur K CW CK Pt Hb H w aw kd sd am tb rl hb rows last rs2 n2 z) (ro : RowsOk rows last) (l1 : rows.length ≤ 1000) (hv : OA K H d v) (e3 : σ[3]? = some (some (.ref aw))) (e11 : σ[11]? = some (some v))
    (q1 : hasD rows d = false → ∀ (t : Addr) H', KeepOd H H' → Cur K CW CK Pt Hb H' w aw kd sd am tb rl hb rows last rs2 n2 z → H' t = some (.tup [.str "gone", v]) → Q (.ref t) H')
    (q2 : ∀ t : Tg, d = tgD t → hasD rows d = true → (∀ r, useR hb rows t = some r → ∀ (p u : Addr) H', KeepOd H H' → Cur K CW CK Pt Hb H' w aw kd sd am tb rl hb rows last rs2 n2 z → H' p = some (.tup [.str "use", .ref u]) → H' u = some (.tup [.str "#", .str r.kind, .int (r.n : Int)]) → Q (.ref p) H') ∧
      (useR hb rows t = none → ∀ (p : Addr) H', KeepOd H H' → Cur K CW CK Pt Hb H' w aw kd sd am tb rl hb (dropR rows t) last rs2 n2 z → H' p = some (.tup [.str "told", .non]) → Q (.ref p) H')) :
    tLam [(Pt, qL)] (TSaid CG CU) (fun E => tMeth CW "destroy" (spDes K CW CK CG CU) [] E (tVar 3) (tCons (tVar 11) tNil)) σ H Q := by
  refine ⟨cur.tbs, fun H1 eN tT => ?_⟩
  have cu := cur.ext eN tT
  have k1 := KeepOd.ext eN
  have hv1 := hv.keep k1
  obtain ⟨dx, ew⟩ := cu.wd.w
  have lkn : ∀ {nm : Str} {n : Int}, (nm == "_kinds") = false → (nm == "_standing") = false → (nm == "_last") = false → (wfl kd sd n).lookup nm = none := fun a b c => (lk_tl a).trans ((lk_tl b).trans ((lk_tl c).trans rfl))
  refine ⟨_, e3, aw, dx, _, rfl, ew, lkn (by decide +kernel) (by decide +kernel) (by decide +kernel), _, e11, aw, kd, sd, v, d, rows, last, hb, rfl, cu.wd, cu.kk, hv1.targ, fun r hr => (ro.okl r hr).w hb, ro.nd, l1, fun eh e p H2 s2 ee => ?_, fun t ed eh => ⟨fun r hu e p u H2 s2 ee eu => ?_, fun hu H2 c2 wd2 => ?_⟩⟩
  · exact ⟨e, p, v, rfl, ee, .inl ⟨rfl, fun t nt => q1 eh t _ (k1.trans ((KeepOd.same s2).trans (KeepOd.same (sm_upd nt)))) ((cu.same s2).same (sm_upd nt)) upd_same⟩⟩
  · exact ⟨e, p, .ref u, rfl, ee, .inr ⟨rfl, fun t2 nt => (q2 t ed eh).1 r hu t2 u _ (k1.trans ((KeepOd.same s2).trans (KeepOd.same (sm_upd nt)))) ((cu.same s2).same (sm_upd nt)) upd_same (sm_upd nt _ _ eu)⟩⟩
  · refine ⟨by show 2 ≤ sizeLine; decide, fun t2 nt => ?_⟩
    obtain ⟨kvs, es, _⟩ := cu.wd.s
    have cu2 := cu.made ne (Ch.mono c2 (by simp)) wd2 (fun r hr => ro.drop.ok r hr)
    exact (q2 t ed eh).2 hu t2 _ (k1.trans ((KeepOd.sd es c2).trans (KeepOd.same (sm_upd nt)))) (cu2.same (sm_upd nt)) upd_same
end
end Kd

set_option Elab.async false
set_option linter.all false
set_option maxRecDepth 100000
set_option maxHeartbeats 4000000
/-! _law_right: a destroying -/
namespace Ed
open PySem PySem.Spec PyProof.Rows L2 Dq Vl Kd
variable {K : PySem.W.Frag} {σ : L2.St} {H : Hp} {ta : TE}
/-- Tags == [] -/
theorem et_eqT {ts : List Tg} (h : ED (O5 K) ta σ H (.lst (ts.map tgD))) : ET (tTest (tOp (rEqD K) ta (tLst tNil))) σ H ts.isEmpty := fun H1 s Q k =>
  h H1 s _ fun v H2 s2 hv => ⟨by show 0 ≤ sizeLine; decide, fun p np => by
    obtain ⟨a, us, rfl, ha, hu⟩ := hv
    have e : PyData.eqv (.list (ts.map tgP)) (.list []) = ts.isEmpty := by
      rw [PyData.eqv]
      cases ts with
      | nil => rw [List.map_nil, PyData.eqvAll]; rfl
      | cons x l => rw [List.map_cons, PyData.eqvAll]; rfl
    refine ⟨.list (ts.map tgP), .list [], .lst (SqL.of (sm_upd np _ _ ha)) (dp_tgs ((kps5 (K := K)).dvl (sm_upd np) hu)), .lst (SqL.of upd_same) .nil, tgs_shaped ts, by decide +kernel, _, rfl, ?_⟩
    rw [e]
    exact k _ (Same.trans s2 (sm_upd np))⟩
end Ed
namespace Kd
open PySem PySem.Spec PyProof.Rows L2 Dq Vl Pf Ed ClX LamX
/-- the rows' Tags, as they stand -/
def TRefs (H : Hp) : List Ro → List V → Prop
  | [], us => us = []
  | r :: rs, us => ∃ (b : Addr) (us' : List V), us = .ref b :: us' ∧ H b = some (.tup [.str "#", .str r.kind, .int (r.n : Int)]) ∧ TRefs H rs us'
theorem TRefs.keep {H H' : Hp} (k : ∀ b xs, H b = some (.tup xs) → H' b = some (.tup xs)) : ∀ {rs : List Ro} {us : List V}, TRefs H rs us → TRefs H' rs us
  | [], _, h => h
  | r :: rs, _, ⟨b, us', e, h, p⟩ => ⟨b, us', e, k _ _ h, p.keep k⟩
theorem TRefs.dv {K : PySem.W.Frag} {H : Hp} : ∀ {rs : List Ro} {us : List V}, TRefs H rs us → DvL (O5 K) H (rs.map tagR) us
  | [], _, h => h
  | r :: rs, _, ⟨b, us', e, h, p⟩ => ⟨_, us', e, ⟨_, _, rfl, .inl (.inl h), _, _, rfl, rfl, _, _, rfl, rfl, _, _, rfl, rfl, rfl⟩, p.dv⟩
theorem TRefs.mem {H : Hp} {v : V} : ∀ {rs : List Ro} {us : List V}, TRefs H rs us → v ∈ us → ∃ r ∈ rs, ∃ b : Addr, v = .ref b ∧ H b = some (.tup [.str "#", .str r.kind, .int (r.n : Int)])
  | [], _, h, m => by cases h; cases m
  | r :: rs, _, ⟨b, us', e, h, p⟩, m => by
    subst e
    rcases List.mem_cons.mp m with rfl | m
    · exact ⟨r, List.mem_cons_self, b, rfl, h⟩
    · obtain ⟨r', hr, x⟩ := p.mem m
      exact ⟨r', List.mem_cons_of_mem _ hr, x⟩
theorem trefs_of {K : PySem.W.Frag} {H : Hp} : ∀ {rs : List Ro} {vs : List V}, MRows K H rs vs → ∃ us, TRefs H rs us ∧ us.length = vs.length ∧ ∀ (j : Nat) (x : V), vs[j]? = some x → ∃ (l b : Addr) (a c : V), x = .ref l ∧ us[j]? = some (.ref b) ∧ H l = some (.lst [.ref b, a, c])
  | [], _, h => by cases h; exact ⟨[], rfl, rfl, fun j x e => by simp at e⟩
  | r :: rs, _, ⟨l, t, d, vs', e, h1, h2, h3, p⟩ => by
    subst e
    obtain ⟨us, i1, i2, i3⟩ := trefs_of p
    refine ⟨.ref t :: us, ⟨t, us, rfl, h2, i1⟩, by rw [List.length_cons, List.length_cons, i2], fun j x e => ?_⟩
    cases j with
    | zero => cases e; exact ⟨l, t, _, _, rfl, rfl, h1⟩
    | succ j => exact i3 j x (by simpa using e)
theorem selV_all {us : List V} : selV us.length (fun _ => true) (fun j => us.getD j .non) = us := by
  unfold selV
  rw [show (fun j => if true = true then some (us.getD j .non) else none) = fun j => some (us.getD j .non) from funext fun j => if_pos rfl, List.filterMap_eq_map']
  refine List.ext_getElem (by simp) fun j h1 h2 => ?_
  simp at h1 h2 ⊢
  rw [List.getElem?_eq_getElem h1]
  rfl
/-- [row[0] for row in rows], as they stand -/
theorem ep_rowtags {K : PySem.W.Frag} {σ : L2.St} {H : Hp} {ta : TE} {rows : List Ro} {vs : List V} {rl : Addr} {i : Nat} (erl : H rl = some (.lst vs)) (mr : MRows K H rows vs) (l1 : rows.length ≤ 1000) (h : EP ta σ H fun v _ => v = .ref rl) (hw : ∀ u, wipe ((wipe σ [i]).set i (some u)) [i] = wipe σ [i]) (hi : ∀ u, ((wipe σ [i]).set i (some u))[i]? = some (some u)) :
    EP (tLc (iList K ta) (gName i) tYes (tOp (rIxL K) (tVar i) (tC (.int 0))) [i]) σ H fun v H2 => ∃ D us, v = .ref D ∧ H2 D = some (.lst us) ∧ TRefs H2 rows us := by
  obtain ⟨us, t1, t2, t3⟩ := trefs_of mr
  have lvs := mr.len
  have lc := ep_lcL (K := K) (σ := σ) (H := H) (i := i) (ta := ta) (tt := tYes) (te := tOp (rIxL K) (tVar i) (tC (.int 0))) (xs := vs) (p := fun _ => true) (out := fun j => us.getD j .non) (h.imp fun v H2 s e => ⟨rl, e, SqL.of (s _ _ erl)⟩) (by omega) hw (fun j x H3 ex s3 H4 s4 Q4 q4 => q4 H4 (Same.refl _)) (fun j x H3 ex s3 _ => by
    obtain ⟨l, b, a, c, rfl, eb, el⟩ := t3 j x ex
    rw [List.getD_eq_getElem?_getD, eb]
    exact ep_ixL (i := 0) (xs := [.ref b, a, c]) (ep_pv (hi _) fun H4 s4 => ⟨l, rfl, s4 _ _ (s3 _ _ el)⟩) rfl)
  rw [← t2, selV_all] at lc
  exact lc.imp fun v H2 s2 ⟨D, e, eD⟩ => ⟨D, us, e, eD, t1.keep fun b xs e => s2 _ _ e⟩
end Kd
namespace Kd
open PySem PySem.Spec PyProof.Rows L2 Dq Vl Pf Ed ClX LamX
/-- the slots in the second walk -/
def Sl2 (w aw am lo : Addr) (σ : L2.St) : Prop := ∃ x1 x2 x5 x6 x7 x8 x9 x11 x12 : Option V, σ = [some (.ref w), x1, x2, some (.ref aw), some (.ref am), x5, x6, x7, x8, x9, some (.ref lo), x11, x12, none, none]
def T2 (K : PySem.W.Frag) (CW CK Pt : Addr) : TS := fun D σ H => ∃ (Hb : Hp) (w aw kd sd am tb rl lo : Addr) (hb : Bool) (rows : List Ro) (last : Nat) (z : Int), Sl2 w aw am lo σ ∧ OddAt H lo aw ∧ Cur K CW CK Pt Hb H w aw kd sd am tb rl hb rows last rows last z ∧ RowsOk rows last ∧ rows.length ≤ 100 ∧ 0 ≤ z ∧ z < 800000 ∧
  ∀ σ' H' rl' rows' z', Sl2 w aw am lo σ' → OddAt H' lo aw → Cur K CW CK Pt Hb H' w aw kd sd am tb rl' hb rows' last rows' last z' → RowsOk rows' last → rows'.length ≤ rows.length → z ≤ z' → z' ≤ z + 5 → D.nx σ' H'
section
variable {P : Program} {w : World} {K : PySem.W.Frag} {mg : Str → Option Value} {base : Heap} {CW CK CT CG CU Pt c : Addr}
theorem part2 {f : Addr} {A : Around} {outer : List Env} {s : Shared} {H0 : Hp} {E : XK} (R : TxtRt P w K mg base CW CK CT CG CU Pt c) (iW : InsT K CW) (hr : Room 8 (cxOf CX0 P w K mg base NRt "_law_right" (defScope sRt) f (.ref c) A outer s H0 E).nox.A) :
    PSs (cxOf CX0 P w K mg base NRt "_law_right" (defScope sRt) f (.ref c) A outer s H0 E).nox (bodyOf ((defBody sRt).getD 6 (.Pass ⟨0, 0, 0, 0⟩))) (T2 K CW CK Pt) := by
  obtain ⟨f1, fd1, D1⟩ := R.one
  obtain ⟨fD, fdD, DD⟩ := R.draw
  obtain ⟨fL, fdL, DL⟩ := R.ldes
  obtain ⟨fA, fdA, DA⟩ := R.alike
  obtain ⟨fW, fdW, MW, GW, bW⟩ := R.wdes
  obtain ⟨fS, oc, kVs, doc, pm, cd, ct, an, od, osl, lkS, hcS, kpS, gS, bS⟩ := R.said
  have hu := hu_of hr
  refine pss_by (pss_cons (ps_set (i := 8) scRt.nd rfl (Or.inr rfl) (pe_lc (own := [("_law_row_here", 14)]) (g := gName 14) (tt := tYes) rfl scRt.nd (pi_list (pe_dget hu (pv 4) pe_str (fun _ _ => rfl))) (blkOk_by (N := NRt) (sc := defScope sRt) (by decide +kernel)) (fun _ _ _ _ _ => pg_name (i := 14) scRt.nd rfl (Or.inl rfl)) (fun _ _ _ _ _ => pts_nil) (fun _ _ _ _ _ => pe_ix (show IxR _ (rIxL K) from ix_list) (pv 14) pe_int (fun _ _ => rfl))))
    (pss_cons (ps_set (i := 11) scRt.nd rfl (Or.inr rfl) (pe_ifExp (PW.pt (pw_or (pt_cmpR (op_eqD (hu64 hr)) (pv 8) (pe_lst pa_nil) (nomark _)) (pw_or1 (pt_cmpR op_eq (pe_call DD.ok (hr.mono (by decide)) rfl DD.g DD.kp DD.b .nil pass0 (pa_cons (pv 0) (pa_cons pe_int pa_nil))) pe_int (nomark _)))))
        (pe_call D1.ok (hr.mono (by decide)) rfl D1.g D1.kp D1.b .nil pass0 (pa_cons (pv 0) (pa_cons (pv 10) pa_nil))) (pe_call D1.ok (hr.mono (by decide)) rfl D1.g D1.kp D1.b .nil pass0 (pa_cons (pv 0) (pa_cons (pv 8) pa_nil)))))
    (pss_cons (ps_set (i := 12) scRt.nd rfl (Or.inl rfl) (pe_call DL.ok (hr.mono (by decide)) rfl DL.g DL.kp DL.b .nil pass0 (pa_cons (pv 4) (pa_cons (pv 11) pa_nil))))
    (pss_one (ps_if (PW.pt (pw_or (pt_cmpR (show OpR _ _ (rNeT K) from op_neT (hu64 hr)) (pe_lamcall (k := 6) (T := [(Pt, qL)]) (t := fun E => tMeth CW "destroy" (spDes K CW CK CG CU) [] E (tVar 3) (tCons (tVar 11) tNil)) rfl gS kpS lkS hcS bS scSaid rfl (.inl rfl) (said_gives R.tc) R.TB rfl (List.mem_singleton.mpr rfl) (fun p hp _ => by rw [List.mem_singleton.mp hp]; rfl) hr (lamS_by (sc := defScope sRt) (by decide +kernel)) rfl (fun _ _ _ _ _ => rfl)
          (fun A outer s H E f c' hr' => pe_meth (E := E) (pv 3) R.tw.cl MW GW hr' bW .nil (passes_call (takes_of rfl rfl rfl rfl) fun _ _ _ _ h => h) (pa_cons (pv 11) pa_nil))) (pv 12) (nomark _))
        (pw_or1 (pt_not (pt_val (pe_call DA.ok hr rfl DA.g DA.kp DA.b .nil pass0 (pa_cons (pv 3) (pa_cons (pv 4) pa_nil)))))))) (pss_one (ps_ret pe_bl)) pss_nil))))) ?_
  intro D σ H ⟨Hb, w, aw, kd, sd, am, tb, rl, lo, hb, rows, last, z, ⟨x1, x2, x5, x6, x7, x8, x9, x11, x12, eσ⟩, odd, cur, ro, rl1, z0, z1, q⟩
  subst eσ
  have P := kps5 (K := K)
  -- the Tags
  obtain ⟨vs, erl, mr⟩ := cur.md.r
  have eR := ep_rowtags (K := K) (i := 14) (σ := [some (.ref w), x1, x2, some (.ref aw), some (.ref am), x5, x6, x7, x8, x9, some (.ref lo), x11, x12, none, none]) erl mr (by omega) (ep_rows (i := 4) cur.md rfl) (fun u => rfl) (fun u => rfl)
  refine EP.seq eR fun lv H1 s1 hl => ?_
  have cur1 := cur.same s1
  have odd1 := odd.keep (.same s1)
  obtain ⟨L, us, rfl, eL, hus⟩ := hl
  clear eR mr erl s1 cur odd
  show tSeq _ _ _ [some (.ref w), x1, x2, some (.ref aw), some (.ref am), x5, x6, x7, some (.ref L), x9, some (.ref lo), x11, x12, none, none] H1
  have lu : us.length = rows.length := by rw [(hus.dv (K := K)).len, List.length_map]
  have nLw : L ≠ w := fun e => by
    obtain ⟨x, y, hx⟩ := cur1.well
    rw [e, hx] at eL
    cases eL
    cases rows with
    | nil => simp at lu
    | cons r rows =>
      obtain ⟨b, us', e1, _⟩ := hus
      cases e1
  have oL : Od (.lst us) := .inr (.inl ⟨_, rfl, fun x y z e => by
    subst e
    cases rows with
    | nil => simp at lu
    | cons r rows =>
      obtain ⟨b, us', e1, _⟩ := hus
      cases e1⟩)
  -- the rest, whatever is drawn
  have rest : ∀ (H2 : Hp) (z2 : Int) (d : D5) (v : V), Cur K CW CK Pt Hb H2 w aw kd sd am tb rl hb rows last rows last z2 → OddAt H2 lo aw → OA K H2 d v → z ≤ z2 → z2 ≤ z + 2 →
      tSeq (tAsg (tCall (spLD K) [] E0 (tCons (tVar 4) (tCons (tVar 11) tNil))) (gName 12)) (tIfS (tOr (tTest (tOp (rNeT K) (tLam [(Pt, qL)] (TSaid CG CU) (fun E => tMeth CW "destroy" (spDes K CW CK CG CU) [] E (tVar 3) (tCons (tVar 11) tNil))) (tVar 12))) (tNot (tTest (tCall (spAl K CW) [] E0 (tCons (tVar 3) (tCons (tVar 4) tNil)))))) (tRet (tC (.bl false))) tNext) D [some (.ref w), x1, x2, some (.ref aw), some (.ref am), x5, x6, x7, some (.ref L), x9, some (.ref lo), some v, x12, none, none] H2 := fun H2 z2 d v cu od2 ha zz1 zz2 => by
    -- behind both destroyings
    have last' : ∀ (H3 : Hp) (rows' : List Ro) (rl' p : Addr) (x y y' : V), Cur K CW CK Pt Hb H3 w aw kd sd am tb rl' hb rows' last rows' last z2 → RowsOk rows' last → rows'.length ≤ rows.length → ∀ (t : Addr), H3 t = some (.tup [x, y]) → H3 p = some (.tup [x, y']) → noF x = true → Twin K H3 y y' →
        ∀ (k : Bool → Hp → Prop), (∀ H4, Same H3 H4 → k false H4) → tOr (tTest (tOp (rNeT K) (tC (.ref t)) (tVar 12))) (tNot (tTest (tCall (spAl K CW) [] E0 (tCons (tVar 3) (tCons (tVar 4) tNil))))) [some (.ref w), x1, x2, some (.ref aw), some (.ref am), x5, x6, x7, some (.ref L), x9, some (.ref lo), some v, some (.ref p), none, none] H3 k := fun H3 rows' rl' p x y y' cu3 ro3 l3 t et ep nx ty k hk => by
      refine ⟨_, rfl, t, p, _, _, rfl, rfl, SqT.of et, SqT.of ep, rfl, fun j u u' e1 e2 => ?_, _, rfl, Vl.iteN rfl ?_⟩
      · match j, e1, e2 with
        | 0, e1, e2 => cases e1; cases e2; exact .inl ⟨rfl, nx⟩
        | 1, e1, e2 => cases e1; cases e2; exact ty
        | j + 2, e1, e2 => cases e1
      · exact ⟨_, rfl, _, rfl, aw, kd, sd, am, tb, rl', hb, rows', last, last, rfl, cu3.wd, cu3.md, ro3.ok, ro3.kd, ro3.nd, by omega, fun H4 s4 => ⟨_, rfl, hk H4 s4⟩⟩
    have gone : hasD rows d = false → ∀ (p : Addr) (H3 : Hp), Same H2 H3 → H3 p = some (.tup [.str "gone", v]) → tIfS (tOr (tTest (tOp (rNeT K) (tLam [(Pt, qL)] (TSaid CG CU) (fun E => tMeth CW "destroy" (spDes K CW CK CG CU) [] E (tVar 3) (tCons (tVar 11) tNil))) (tVar 12))) (tNot (tTest (tCall (spAl K CW) [] E0 (tCons (tVar 3) (tCons (tVar 4) tNil)))))) (tRet (tC (.bl false))) tNext D [some (.ref w), x1, x2, some (.ref aw), some (.ref am), x5, x6, x7, some (.ref L), x9, some (.ref lo), some v, some (.ref p), none, none] H3 := fun eh p H3 s3 ep => by
      refine des_said (σ := [some (.ref w), x1, x2, some (.ref aw), some (.ref am), x5, x6, x7, some (.ref L), x9, some (.ref lo), some v, some (.ref p), none, none]) R.ne (cu.same s3) ro (by omega) (ha.keep (.same s3)) rfl rfl (fun _ t H4 k4 cu4 et => ?_) (fun t ed eh' => by rw [eh] at eh'; cases eh')
      refine last' H4 rows rl p (.str "gone") v v cu4 ro (Nat.le_refl _) t et (k4 _ _ ep (.inl ⟨_, rfl⟩)) rfl (.inl ⟨rfl, ha.noF⟩) _ fun H5 s5 => Vl.iteN rfl ?_
      exact q _ H5 rl rows z2 ⟨_, _, _, _, _, _, _, _, _, rfl⟩ (od2.keep (((KeepOd.same s3).trans k4).trans (.same s5))) (cu4.same s5) ro (Nat.le_refl _) zz1 (by omega)
    refine ⟨_, rfl, _, rfl, am, tb, rl, hb, rows, last, v, rfl, cu.md, by omega, ro.okl, ?_⟩
    rcases ha.odd with ⟨t, rfl, h1⟩ | ⟨nt, no⟩
    · have hh := has_any (rows := rows) ro.kd h1
      refine .inr ⟨t, ha.dv, fun e p H3 s3 ep => gone (hh.trans e) p H3 s3 ep, fun e => ⟨fun r hu p u H3 s3 ep eu => ?_, fun hu p rl' H3 c3 md3 nr3 ep => ?_⟩⟩
      · refine des_said (σ := [some (.ref w), x1, x2, some (.ref aw), some (.ref am), x5, x6, x7, some (.ref L), x9, some (.ref lo), some v, some (.ref p), none, none]) R.ne (cu.same s3) ro (by omega) (ha.keep (.same s3)) rfl rfl (fun eh => by rw [hh.trans e] at eh; cases eh) (fun t' ed _ => ?_)
        obtain rfl : t = t' := Option.some.inj ((unTg_tgD t).symm.trans ((congrArg unTg ed).trans (unTg_tgD t')))
        refine ⟨fun r' hu' p' u' H4 k4 cu4 ep' eu' => ?_, fun hn => by rw [hu] at hn; cases hn⟩
        rw [hu] at hu'
        cases hu'
        have mr := List.mem_of_find?_eq_some hu
        have d1 : ∀ {b : Addr}, H4 b = some (.tup [.str "#", .str r.kind, .int (r.n : Int)]) → Dv (O5 K) H4 (tagR r) (.ref b) := fun h => ⟨_, _, rfl, .inl (.inl h), _, _, rfl, rfl, _, _, rfl, rfl, _, _, rfl, rfl, rfl⟩
        refine last' H4 rows rl p (.str "use") (.ref u') (.ref u) cu4 ro (Nat.le_refl _) p' ep' (k4 _ _ ep (.inl ⟨_, rfl⟩)) rfl (.inr ⟨tagR r, tagR r, d1 eu', d1 (k4 _ _ eu (.inl ⟨_, rfl⟩)), eqv_self _ (by simp [pln, plnL, tagR, tagOf]), by simp [dp, dpL, tagR, tagOf]⟩) _ fun H5 s5 => Vl.iteN rfl ?_
        exact q _ H5 rl rows z2 ⟨_, _, _, _, _, _, _, _, _, rfl⟩ (od2.keep (((KeepOd.same s3).trans k4).trans (.same s5))) (cu4.same s5) ro (Nat.le_refl _) zz1 (by omega)
      · have k3 := KeepOd.am cu.md.m c3
        have cu3 := cu.lmade R.ne (Ch.mono c3 (by simp)) md3 (fun r hr => ro.drop.ok r hr) (.of cu.fb cu.well nr3)
        refine des_said (σ := [some (.ref w), x1, x2, some (.ref aw), some (.ref am), x5, x6, x7, some (.ref L), x9, some (.ref lo), some v, some (.ref p), none, none]) R.ne cu3 ro (by omega) (ha.keep k3) rfl rfl (fun eh => by rw [hh.trans e] at eh; cases eh) (fun t' ed _ => ?_)
        obtain rfl : t = t' := Option.some.inj ((unTg_tgD t).symm.trans ((congrArg unTg ed).trans (unTg_tgD t')))
        refine ⟨fun r' hu' => (by rw [hu] at hu'; cases hu'), fun _ p' H4 k4 cu4 ep' => ?_⟩
        have ld : (dropR rows t).length ≤ rows.length := List.length_filter_le _ _
        refine last' H4 (dropR rows t) rl' p (.str "told") .non .non cu4 ro.drop ld p' ep' (k4 _ _ ep (.inl ⟨_, rfl⟩)) rfl (.inl ⟨rfl, rfl⟩) _ fun H5 s5 => Vl.iteN rfl ?_
        exact q _ H5 rl' (dropR rows t) z2 ⟨_, _, _, _, _, _, _, _, _, rfl⟩ (od2.keep ((k3.trans k4).trans (.same s5))) (cu4.same s5) ro.drop ld zz1 (by omega)
    · exact .inl ⟨d, ha.dv, ha.lyk, fun r hr => no r (ro.kd r hr), fun p H3 s3 ep => gone (by unfold hasD; rw [nt]; rfl) p H3 s3 ep⟩
  -- an odd thing
  have fromOdd : ∀ (H2 : Hp) (z2 : Int) (Q : VK), Cur K CW CK Pt Hb H2 w aw kd sd am tb rl hb rows last rows last z2 → OddAt H2 lo aw → z ≤ z2 → z2 ≤ z + 1 → (∀ (v : V) (d : D5) (H3 : Hp) (z3 : Int), Cur K CW CK Pt Hb H3 w aw kd sd am tb rl hb rows last rows last z3 → OddAt H3 lo aw → OA K H3 d v → z2 ≤ z3 → z3 ≤ z2 + 1 → Q v H3) →
      tCall (spOne K) [] E0 (tCons (tVar 0) (tCons (tVar 10) tNil)) [some (.ref w), x1, x2, some (.ref aw), some (.ref am), x5, x6, x7, some (.ref L), x9, some (.ref lo), x11, x12, none, none] H2 Q := fun H2 z2 Q cu od2 zz1 zz2 k => by
    obtain ⟨t6, tT, e, m, hlo, h6, hT, he, hm⟩ := id od2
    have nlo : lo ≠ w := fun q => by
      obtain ⟨x, y, hx⟩ := cu.well
      rw [q, hx] at hlo
      cases hlo
    refine ⟨_, rfl, _, rfl, w, lo, z2, _, rfl, cu.well, hlo, nlo, by show 0 < 8; decide, by show 8 < 1000000; decide, by omega, by omega, fun v z3 H3 hv zz3 zz4 hw3 b3 => ?_⟩
    have cu3 := cu.draw R.ne b3 hw3
    have kk := KeepOd.but cu.well b3
    have fin : ∀ d, OA K H2 d v → Q v H3 := fun d h => k v d H3 z3 cu3 (od2.keep kk) (h.keep kk) zz3 zz4
    obtain ⟨dx, ew⟩ := cu.wd.w
    simp only [List.mem_cons, List.not_mem_nil, or_false] at hv
    rcases hv with rfl | rfl | rfl | rfl | rfl | rfl | rfl | rfl
    · exact fin _ .non
    · exact fin _ .x
    · exact fin _ .three
    · exact fin _ (.tag (false, 60) t6 h6 (by decide))
    · exact fin _ (.tT tT hT)
    · exact fin _ (.e e he)
    · exact fin _ (.m m hm)
    · exact fin _ (.wd aw CW dx _ ew iW)
  refine (et_eqT (K := K) (ts := rows.map TgR) (ed_pv P (i := 8) rfl ⟨L, us, rfl, eL, by rw [← map_tagR ro.kd]; exact hus.dv⟩)).run fun H2 s2 => ?_
  have cur2 := cur1.same s2
  have odd2 := odd1.keep (.same s2)
  cases er : (rows.map TgR).isEmpty with
  | true =>
    refine Vl.iteC rfl (Vl.iteC rfl ?_)
    exact fromOdd H2 z _ cur2 odd2 (by omega) (by omega) fun v d H3 z3 cu3 od3 ha zz1 zz2 => rest H3 z3 d v cu3 od3 ha zz1 (by omega)
  | false =>
    have pos : 0 < us.length := by
      rw [lu]
      cases rows with
      | nil => cases er
      | cons r rows => simp
    refine Vl.iteN rfl ⟨_, rfl, w, 7, z, rfl, cur2.well, by decide, by decide, z0, by omega, fun g z3 H3 g0 g1 zz1 zz2 hw3 b3 => ⟨rfl, _, rfl, ?_⟩⟩
    have cur3 := cur2.draw R.ne b3 hw3
    have k23 := KeepOd.but cur2.well b3
    have odd3 := odd2.keep k23
    by_cases hg : g = 0
    · subst hg
      refine Vl.iteC (by simp) ?_
      exact fromOdd H3 z3 _ cur3 odd3 (by omega) (by omega) fun v d H4 z4 cu4 od4 ha zz3 zz4 => rest H4 z4 d v cu4 od4 ha (by omega) (by omega)
    · refine Vl.iteN (by simp [hg]) ?_
      have eL3 := k23 _ _ (s2 _ _ eL) oL
      have hus3 := hus.keep fun b xs e => k23 _ _ (s2 _ _ e) (.inl ⟨_, rfl⟩)
      refine ⟨_, rfl, _, rfl, w, L, z3, us, rfl, cur3.well, eL3, nLw, pos, by omega, by omega, by omega, fun v z4 H4 hv zz3 zz4 hw4 b4 => ?_⟩
      have k34 := KeepOd.but cur3.well b4
      obtain ⟨r, hr', b, rfl, eb⟩ := hus3.mem hv
      have oa : OA K H3 (tgD (TgR r)) (.ref b) := .tag (TgR r) b (by
        have := ro.kd r hr'
        show H3 b = some (.tup [.str "#", .str (kname (koR r)), .int (r.n : Int)])
        rw [← this]
        exact eb) (ro.ok r hr').n
      exact rest H4 z4 _ _ (cur3.draw R.ne b4 hw4) (odd3.keep k34) (oa.keep k34) (by omega) (by omega)
end
end Kd

set_option Elab.async false
set_option linter.all false
set_option maxRecDepth 100000
set_option maxHeartbeats 4000000
/-! _law_right: the kinds -/
namespace Kd
open PySem PySem.Spec PyProof.Rows L2 Dq Vl Pf Ed ClX LamX
theorem kd_okK (hb ko : Bool) : okK (kindD hb ko) = true := by cases hb <;> cases ko <;> decide +kernel
theorem kd_wrg (hb ko : Bool) : wrg (kindD hb ko) = none := by cases hb <;> cases ko <;> decide +kernel
abbrev gVk : List V → List V → List V := fun vs zs => vs ++ ([V.non] ++ zs)
abbrev rDictP (K : PySem.W.Frag) : List V → Hp → VK → Prop := fun xs H Q => ∃ (a : Addr) (ps : List Addr) (kvs : List (Key × V)), xs = [.ref a] ∧ SqL K H a (ps.map V.ref) ∧ Paired (fun p kv => SqT K H p [kV kv.1, kv.2]) ps kvs ∧ ∀ p, H p = none → Q (.ref p) (upd H p (.dK (mergeK [] kvs)))
abbrev tKin (K : PySem.W.Frag) (CK CN : Addr) : TE := tCB (rDictP K) (tCons (tLockE (tLc (iKeys (tVar 1)) (gName 13) tYes (tTup (tCons (tVar 13) (tCons (tMakeK CK 3 1 (spKI (O5 K) CK CN) gVk (fun _ _ _ => False) (tCons (tVar 13) (tCons (tDGet (tDGet (tVar 1) (tVar 13)) (tC (.str "given"))) (tCons (tDGet (tDGet (tVar 1) (tVar 13)) (tC (.str "made"))) tNil))) (tCons (tDGet (tDGet (tVar 1) (tVar 13)) (tC (.str "holds"))) tNil)) tNil))) [13])) tNil)
theorem apt_frz {CK : Addr} {o : Obj} {kvs : List (Key × V)} : Apt CK (.frz o (.dK kvs)) := ⟨alien_frz, fun _ _ e => (nomatch e), fun _ _ _ e => (nomatch e), fun _ e => (nomatch e), codeN fun _ e => nomatch e⟩
theorem kname_at {i : Nat} {s : Str} (h : (["k", "other"] : List Str)[i]? = some s) : s = kname (decide (i = 1)) ∧ i < 2 := by
  match i, h with
  | 0, h => cases h; exact ⟨rfl, by omega⟩
  | 1, h => cases h; exact ⟨rfl, by omega⟩
  | i + 2, h => cases h
theorem kinds_run {K : PySem.W.Frag} {CK CN : Addr} {H : Hp} {tb : Addr} {hb : Bool} {x0 : Option V} {Q : VK} (htb : Dv (O5 K) H (tabsD hb) (.ref tb)) (k : ∀ (kd : Addr) H', Same H H' → KAt K CK H' kd hb → Q (.ref kd) H') :
    tKin K CK CN [x0, some (.ref tb), none, none, none, none, none, none, none, none, none, none, none, none, none] H Q := by
  have P := kps5 (K := K)
  obtain ⟨_, kvs, e, etb, nd, ek, hl⟩ := id htb
  cases e
  have lk : kvs.length = 2 := by
    have := congrArg List.length ek
    rwa [List.length_map, List.length_map] at this
  have ndk : (kvs.map (·.1)).Nodup := by rw [ek]; decide +kernel
  have al0 : ∀ b ∈ [tb], ∀ o, H b = some o → Alien [tabK] o := fun b m o e => by
    rw [List.mem_singleton.mp m, etb] at e
    cases e
    refine alien_dk fun ks hk q => ?_
    rw [List.mem_singleton.mp hk, ek] at q
    exact absurd q (by decide +kernel)
  have tk1 : ∀ hb ko, kpt [tabK] (tabD hb ko) = true := fun hb ko => by
    have d1 : decide (tabK ∈ [tabK]) = true := by decide +kernel
    cases hb <;> cases ko <;> simp [tabD, kpt, kptL, d1, gvn, mdn, hln, hldN, rwG, rId, rMk]
  refine ⟨tb, .dK kvs, etb, True.intro, fun od => ⟨_, rfl, tb, od, rfl, .inl ⟨kvs, upd_same, fun D nD => ?_⟩⟩⟩
  have nDt : D ≠ tb := fun e => by rw [e, upd_same] at nD; cases nD
  have nD0 : H D = none := by rwa [upd_ne nDt] at nD
  have aptP : ∀ ps : List Addr, Apt CK (.lst (ps.map V.ref)) := fun ps => apt_lst fun t k d e => by
    have := congrArg (fun l => l[1]?) e
    simp only [List.getElem?_map, List.getElem?_cons_succ, List.getElem?_cons_zero] at this
    cases h : ps[1]? with
    | none => rw [h] at this; cases this
    | some a => rw [h] at this; cases this
  refine lc_it (walk_keys (d := tb) (o := od) (kvs := kvs)) (fun i H' => (H' tb = some (.frz od (.dK kvs)) ∧ Ch [tb] H H') ∧ ∃ (ps as : List Addr), H' D = some (.lst (ps.map V.ref)) ∧ ps.length = i ∧ as.length = i ∧ Paired (fun p kv => H' p = some (.tup [kV kv.1, kv.2])) ps (((((["k", "other"] : List Str).take i).map Sum.inr) : List Key).zip (as.map V.ref)) ∧ ∀ j a, as[j]? = some a → KdAt (O5 K) CK H' a (kindD hb (decide (j = 1))))
    ⟨⟨(upd_ne (Ne.symm nDt)).trans upd_same, Ch.updNew (Ch.upd (by simp)) nD0⟩, [], [], upd_same, rfl, rfl, .nil, fun j a e => by simp at e⟩ (fun i H' _ h => h.1.1) (fun i x H3 H3' hi h y => ?_) (fun H3 h => ?_)
  · obtain ⟨⟨e1, e2⟩, ps, as, eD, lp, la, pr, hk⟩ := h
    obtain ⟨rfl, kk, v1, e6, rfl⟩ := y
    obtain ⟨s, rfl, es⟩ : ∃ s : Str, kk = .inr s ∧ (["k", "other"] : List Str)[i]? = some s := by
      have := congrArg (fun m => m[i]?) ek
      simp only [List.getElem?_map, e6, Option.map_some] at this
      cases q : (["k", "other"] : List Str)[i]? with
      | none => rw [q] at this; cases this
      | some s => rw [q] at this; cases this; exact ⟨s, rfl, rfl⟩
    obtain ⟨rfl, i2⟩ := kname_at es
    have hv1 : Dv (O5 K) H3' (tabD hb (decide (i = 1))) v1 := by
      have : Dv (O5 K) H (tabD hb (decide (i = 1))) v1 := by
        obtain ⟨d, ed, hd⟩ := rowAt hl (i := i) (u := v1) (by rw [List.getElem?_map, e6]; rfl)
        match i, i2, ed with
        | 0, _, ed => cases ed; exact hd
        | 1, _, ed => cases ed; exact hd
      exact Dv.ch e2 al0 _ _ (tk1 _ _) this
    have inner : ∀ {H4 : Hp} {σ : L2.St}, Same H3' H4 → σ[1]? = some (some (.ref tb)) → σ[13]? = some (some (.str (kname (decide (i = 1))))) → ED (O5 K) (tDGet (tVar 1) (tVar 13)) σ H4 (tabD hb (decide (i = 1))) := fun {H4 σ} s4 q1 q13 H5 s5 Q5 q5 =>
      ⟨_, q1, _, q13, tb, v1, rfl, .inl ⟨kvs, .inr (kname (decide (i = 1))), .inr ⟨od, s5 _ _ (s4 _ _ e1)⟩, rfl, (find_at ndk e6).symm⟩, q5 v1 H5 (Same.refl _) (P.dv (Same.trans s4 s5) hv1)⟩
    refine ⟨rfl, _, rfl, _, rfl, ?_⟩
    refine (ed_get (i := 1) (inner (Same.refl _) rfl rfl) ep_str rfl rfl).run fun v2 H4 s4 h2 => ?_
    refine (ed_get (i := 2) (inner s4 rfl rfl) ep_str rfl rfl).run fun v3 H5 s5 h3 => ?_
    refine (ed_get (i := 4) (inner (Same.trans s4 s5) rfl rfl) ep_str rfl rfl).run fun v5 H6 s6 h5 => ⟨rfl, rfl, fun a dx na ndx ne => ?_⟩
    have sb : Same H6 (upd (upd H6 dx (.own a)) a (.ins CK dx [])) := fun b o e => (upd_ne (ne_of_none e na)).trans ((upd_ne (ne_of_none e ndx)).trans e)
    have sa := Same.trans (Same.trans s4 s5) s6
    have kp : KpAt (O5 K) (upd (upd H6 dx (.own a)) a (.ins CK dx [])) (kindD hb (decide (i = 1))) [.str (kname (decide (i = 1))), v2, v3, .non, v5] := ⟨_, _, _, _, _, rfl, rfl, P.dv (Same.trans s5 (Same.trans s6 sb)) h2, P.dv (Same.trans s6 sb) h3, rfl, P.dv sb h5⟩
    refine ⟨a, dx, .str (kname (decide (i = 1))), v2, v3, .non, v5, kindD hb (decide (i = 1)), rfl, upd_same, kp, kd_okK _ _, (fun z ez => by rw [kd_wrg] at ez; cases ez), fun _ H7 s7 e7 => ⟨rfl, ?_⟩⟩
    have s67 : Same H6 H7 := fun b o e => s7 _ _ (sb _ _ e) (ne_of_none e na)
    have s37 := Same.trans sa s67
    have nk : KdAt (O5 K) CK H7 a (kindD hb (decide (i = 1))) := ⟨dx, _, _, _, _, _, e7, _, _, _, _, _, rfl, rfl, P.dv (Same.trans s5 (Same.trans s6 s67)) h2, P.dv (Same.trans s6 s67) h3, rfl, P.dv s67 h5⟩
    refine ⟨by show 2 ≤ sizeLine; decide, fun p np => ?_⟩
    have s8 := sm_upd (o := .tup [kV (Sum.inr (kname (decide (i = 1)))), .ref a]) np
    have e8 : (upd H7 p (.tup [kV (Sum.inr (kname (decide (i = 1)))), .ref a])) p = some (.tup [kV (Sum.inr (kname (decide (i = 1)))), .ref a]) := upd_same
    generalize upd H7 p (.tup [kV (Sum.inr (kname (decide (i = 1)))), .ref a]) = H8 at s8 e8
    have s38 := Same.trans s37 s8
    have eD8 := s38 _ _ eD
    have al8 : ∀ b ∈ [D], ∀ o, H8 b = some o → Apt CK o := fun b m o e => by rw [List.mem_singleton.mp m, eD8] at e; cases e; exact aptP ps
    have cm9 : Calm CK H8 (upd H8 D (.lst (ps.map V.ref ++ [.ref p]))) := .ch (S := [D]) (.upd (by simp)) al8
    refine ⟨_, eD8, by rw [List.length_map, lp]; exact Nat.lt_of_lt_of_le i2 (by decide), ⟨(upd_ne (Ne.symm nDt)).trans (s38 _ _ e1), Ch.updNew (Ch.trans e2 (Ch.same s38)) nD0⟩, ps ++ [p], as ++ [a], ?_, by rw [List.length_append, lp]; rfl, by rw [List.length_append, la]; rfl, ?_, fun j b eb => ?_⟩
    · rw [upd_same, List.map_append]
      rfl
    · have ez : ((((["k", "other"] : List Str).take (i + 1)).map Sum.inr) : List Key).zip ((as ++ [a]).map V.ref) = ((((["k", "other"] : List Str).take i).map Sum.inr) : List Key).zip (as.map V.ref) ++ [(.inr (kname (decide (i = 1))), .ref a)] := by
        rw [List.take_succ, es, List.map_append, List.map_append, List.zip_append (by rw [List.length_map, List.length_map, List.length_take, la]; simp; omega)]
        rfl
      rw [ez]
      exact Paired.snoc (Paired.imp2 (fun q kv h => cm9.t _ _ (s38 _ _ h)) pr) (cm9.t _ _ e8)
    · rcases Nat.lt_or_ge j as.length with lt | ge
      · rw [List.getElem?_append_left lt] at eb
        exact ((hk j b eb).same5 s38).calm cm9
      · rw [List.getElem?_append_right ge] at eb
        have hj : j - as.length = 0 := by
          cases q : j - as.length with
          | zero => rfl
          | succ n => rw [q] at eb; cases eb
        rw [hj] at eb
        cases eb
        have : j = i := by omega
        rw [this]
        exact (nk.same5 s8).calm cm9
  · obtain ⟨⟨e1, e2⟩, ps, as, eD, lp, la, pr, hk⟩ := h
    rw [lk] at lp la pr
    have al1 : ∀ b ∈ [tb], ∀ o, H3 b = some o → Apt CK o := fun b m o e => by rw [List.mem_singleton.mp m, e1] at e; cases e; exact apt_frz
    have cm : Calm CK H3 (upd H3 tb (.dK kvs)) := .ch (S := [tb]) (.upd (by simp)) al1
    have sm : Same H (upd H3 tb (.dK kvs)) := fun c o e => by
      by_cases n : c = tb
      · subst n
        rw [etb] at e
        cases e
        exact upd_same
      · exact (upd_ne n).trans (e2 c o e (by simpa using n))
    obtain ⟨ak, ao, rfl⟩ : ∃ ak ao, as = [ak, ao] := by
      match as, la with
      | [a, b], _ => exact ⟨a, b, rfl⟩
    refine ⟨e1, D, ps, [(.inr "k", .ref ak), (.inr "other", .ref ao)], rfl, SqL.of ((upd_ne nDt).trans eD), Paired.imp2 (fun q kv h => SqT.of (cm.t _ _ h)) pr, fun kd nkd => ?_⟩
    have em : mergeK [] [((.inr "k" : Key), V.ref ak), (.inr "other", .ref ao)] = [(.inr "k", .ref ak), (.inr "other", .ref ao)] := merge_nd _ [] (show ([.inr "k", .inr "other"] : List Key).Nodup by decide +kernel)
    rw [em]
    have skd := sm_upd (o := .dK [((.inr "k" : Key), V.ref ak), (.inr "other", .ref ao)]) nkd
    exact k kd _ (Same.trans sm skd) ⟨ak, ao, upd_same, ((hk 0 ak rfl).calm cm).same5 skd, ((hk 1 ao rfl).calm cm).same5 skd⟩
theorem kinds_seq {K : PySem.W.Frag} {CK CN : Addr} {H : Hp} {tb : Addr} {hb : Bool} {x0 : Option V} {u : TS} {D : Ends} (htb : Dv (O5 K) H (tabsD hb) (.ref tb)) (k : ∀ (kd : Addr) H', Same H H' → KAt K CK H' kd hb → u D [x0, some (.ref tb), some (.ref kd), none, none, none, none, none, none, none, none, none, none, none, none] H') :
    tSeq (tAsg (tKin K CK CN) (gName 2)) u D [x0, some (.ref tb), none, none, none, none, none, none, none, none, none, none, none, none, none] H := kinds_run htb k
end Kd

set_option Elab.async false
set_option linter.all false
set_option maxRecDepth 100000
set_option maxHeartbeats 4000000
/-! _law_right -/
namespace Kd
open PySem PySem.Spec PyProof.Rows L2 Dq Vl Pf Ed ClX LamX
structure TxtR2 (P : Program) (w : World) (K : PySem.W.Frag) (mg : Str → Option Value) (base : Heap) (CW CK CN CT CG CU Pt c : Addr) : Prop where
  rt : TxtRt P w K mg base CW CK CT CG CU Pt c
  iw : InsT K CW
  tk : TxtKi K mg CK
  tab : HasD P w K mg base 3 "_law_tables" ["_law_well_here"] (spTb K)
  mod : HasD P w K mg base 1 "_law_model" ["_law_tables_here"] spMo
  kin : ∃ (fI : Addr) (fd : FuncData) (g : List Value → List Value → List Value), Mk K CK fI ∧ FnOk P w K mg base (L2.CX P w) 5 fI fd PKI (spKI (O5 K) CK CN) ∧ KBn K fd PKI 4 ["holds"] g gVk
  win : ∃ (fI : Addr) (fd : FuncData), Mk K CW fI ∧ FnOk P w K mg base CX0 1 fI fd ["self", "kinds"] (spWI K CW) ∧ Binds K fd ["self", "kinds"] []
def spRt (Pt : Addr) : Sp := fun vs H Q _ => ∃ (w : Addr) (z : Int), vs = [.ref w] ∧ WellAt H w z ∧ 0 ≤ z ∧ z < 700000 ∧ Tabs [(Pt, qL)] H ∧
  ∀ (z' : Int) H', z ≤ z' → z' ≤ z + 1000 → WellAt H' w z' → Tabs [(Pt, qL)] H' → Fr w H H' → Q (.bl true) H'
section
variable {P : Program} {w0 : World} {K : PySem.W.Frag} {mg : Str → Option Value} {base : Heap} {CW CK CN CT CG CU Pt c : Addr}
theorem ok_right {f : Addr} {oc kV0 doc pm ct : Value} {an od : Option Addr} {osl : Array (Option Value)}
    (lk : K.lookup f = some ⟨oc, od, .func (PySem.W.fnOf "_law_right" "_law_right" (defArgs sRt) (defBody sRt) (defScope sRt) .none kV0 doc pm an (.ref c) ct), osl⟩) (hcd : PySem.W.codeIn K (.ref c) "_law_right" = true)
    (R2 : TxtR2 P w0 K mg base CW CK CN CT CG CU Pt c) : FnOk P w0 K mg base CX0 9 f (PySem.W.fnOf "_law_right" "_law_right" (defArgs sRt) (defBody sRt) (defScope sRt) .none kV0 doc pm an (.ref c) ct) ["_law_well_here"] (spRt Pt) := by
  obtain ⟨fB, fdB, DB⟩ := R2.tab
  obtain ⟨fO, fdO, DO⟩ := R2.mod
  obtain ⟨fI, fdI, g, MI, GI, kb⟩ := R2.kin
  obtain ⟨fJ, fdJ, MJ, GJ, bJ⟩ := R2.win
  have R := R2.rt
  obtain ⟨fD, fdD, DD⟩ := R.draw
  obtain ⟨fM, fdM, DM⟩ := R.lmk
  obtain ⟨fW, fdW, MW, GW, bW⟩ := R.wmk
  obtain ⟨fS, ocS, kVs, docS, pmS, cdS, ctS, anS, odS, oslS, lkS, hcS, kpS, gS, bS⟩ := R.said
  refine fn_of lk hcd scRt (fun vs H Q E h => ?_) (fun A outer s H vs Q E hr h => ?_)
  · obtain ⟨w, z, rfl, _⟩ := h
    rfl
  · obtain ⟨w, z, rfl, hw, z0, z1, tb0, k⟩ := h
    have main : ∃ t, PSs (cxOf CX0 P w0 K mg base NRt "_law_right" (defScope sRt) f (.ref c) A outer s H E).nox (defBody sRt) t ∧ t { nx := fun _ H' => Q .non H', rt := Q } (L2.start NRt [V.ref w]) H := by
      have hu := hu_of hr
      refine ⟨_, pss_cons (ps_set (i := 1) scRt.nd rfl (Or.inr rfl) (pe_call DB.ok (hr.mono (by decide)) rfl DB.g DB.kp DB.b .nil pass0 (pa_cons (pv 0) pa_nil)))
        (pss_cons (ps_set (i := 2) scRt.nd rfl (Or.inl rfl) (pe_callTy (call_dictP rfl) (by rfl) R.dict (by decide +kernel) (pa_cons (pe_lock (pe_lc (own := [("_law_name", 13)]) (g := gName 13) (tt := tYes) rfl scRt.nd (pi_keys (pv 1)) (blkOk_by (N := NRt) (sc := defScope sRt) (by decide +kernel)) (fun _ _ _ _ _ => pg_name (i := 13) scRt.nd rfl (Or.inl rfl)) (fun _ _ _ _ _ => pts_nil)
            (fun _ _ _ _ _ => pe_tup (pa_cons (pv 13) (pa_cons (pe_makeK MI GI (hr.mono (by decide)) rfl R2.tk.mg kb (passes_call (E := fun _ _ _ => False) L2.takes0 (fun _ _ _ _ h => h)) (pa_cons (pv 13) (pa_cons (pe_dget hu (pe_dget hu (pv 1) (pv 13) (fun _ _ => rfl)) pe_str (fun _ _ => rfl)) (pa_cons (pe_dget hu (pe_dget hu (pv 1) (pv 13) (fun _ _ => rfl)) pe_str (fun _ _ => rfl)) pa_nil)))
              (pk_cons (pe_dget hu (pe_dget hu (pv 1) (pv 13) (fun _ _ => rfl)) pe_str (fun _ _ => rfl)) pk_nil)) pa_nil))))) pa_nil)))
        (pss_cons (ps_asg (pe_tup (pa_cons (pe_make MJ GJ (hr.mono (by decide)) rfl R.tw.g bJ .nil pass0 (pa_cons (pv 2) pa_nil)) (pa_cons (pe_call DO.ok (hr.mono (by decide)) rfl DO.g DO.kp DO.b .nil pass0 (pa_cons (pv 1) pa_nil)) pa_nil))) (pg_tup rfl (pgs_cons (pg_name (i := 3) scRt.nd rfl (Or.inr rfl)) (pgs_cons (pg_name (i := 4) scRt.nd rfl (Or.inl rfl)) pgs_nil))))
        (pss_cons (ps_set (i := 5) scRt.nd rfl (Or.inl rfl) (pe_op op_add pe_int (pe_call DD.ok (hr.mono (by decide)) rfl DD.g DD.kp DD.b .nil pass0 (pa_cons (pv 0) (pa_cons pe_int pa_nil)))))
        (pss_cons (ps_for PassesOwn.never rfl (pi_range1 rfl R.range (pa_cons (pv 5) pa_nil)) (pg_name (i := 6) scRt.nd rfl (Or.inl rfl)) (part1 R hr))
        (pss_cons (ps_set (i := 10) scRt.nd rfl (Or.inl rfl) (pe_lst (pa_cons pe_non (pa_cons pe_str (pa_cons pe_int (pa_cons (pe_tup (pa_cons pe_str (pa_cons pe_str (pa_cons pe_int pa_nil)))) (pa_cons (pe_tup (pa_cons pe_str (pa_cons pe_str (pa_cons pe_bl pa_nil)))) (pa_cons (pe_lst pa_nil) (pa_cons pe_dnewK (pa_cons (pv 3) pa_nil))))))))))
        (pss_cons (ps_for PassesOwn.never rfl (pi_range1 rfl R.range (pa_cons (pe_op op_add pe_int (pv 5)) pa_nil)) (pg_name (i := 6) scRt.nd rfl (Or.inl rfl)) (part2 R R2.iw hr))
        (pss_cons (ps_set (i := 9) scRt.nd rfl (Or.inr rfl) (pe_disp (pps_cons pe_str pe_non (pps_cons pe_str pe_non (pps_cons pe_str pe_non pps_nil))) (by rfl) (by rfl) (fun z => by cases z) (by decide)))
        (pss_one (ps_ret (pe_cmpR (show OpR _ _ (rEq5 K) from op_eq5 (hu64 hr)) (pe_lamcall (k := 6) (T := [(Pt, qL)]) (t := fun E => tMeth CW "make" (spMake K CW CK) [] E0 (tVar 3) (tCons (tC (.str "k")) (tCons (tVar 9) tNil))) rfl gS kpS lkS hcS bS scSaid rfl (.inl rfl) (said_gives R.tc) R.TB rfl (List.mem_singleton.mpr rfl) (fun p hp _ => by rw [List.mem_singleton.mp hp]; rfl) hr (lamS_by (sc := defScope sRt) (by decide +kernel)) rfl (fun _ _ _ _ _ => rfl)
            (fun A outer s H E f c' hr' => pe_meth (pv 3) R.tw.cl MW GW hr' bW .nil pass0 (pa_cons pe_str (pa_cons (pv 9) pa_nil))))
          (pe_call DM.ok (hr.mono (by decide)) rfl DM.g DM.kp DM.b .nil pass0 (pa_cons (pv 4) (pa_cons pe_str (pa_cons (pv 9) pa_nil)))) (nomark _)))))))))))
        , ?_⟩
      have P' := kps5 (K := K)
      -- the tables
      refine ⟨_, rfl, w, z, rfl, hw, z0, by omega, fun tb hb za H1 za1 za2 hw1 b1 htb => ?_⟩
      have t1 : Tabs [(Pt, qL)] H1 := tabs_ch (CK := CK) tb0 (.but b1) fun a m o e => by
        obtain ⟨x, y, e0⟩ := hw
        rw [List.mem_singleton.mp m, e0] at e
        cases e
        exact apt_lst fun t k d q => by cases q
      have f1 : Fr w H H1 := .but b1
      show tSeq _ _ _ [some (.ref w), some (.ref tb), none, none, none, none, none, none, none, none, none, none, none, none, none] H1
      -- the kinds
      refine kinds_seq htb fun kk H2 s2 hk2 => ?_
      have t2 := t1.ext s2
      have f2 := f1.trans (.same s2)
      have hw2 := wellS hw1 s2
      have htb2 := P'.dv s2 htb
      clear s2 htb t1 f1 hw1 b1
      -- the world
      obtain ⟨ak, ao, ekk, ha, hao⟩ := id hk2.at_
      refine ⟨_, rfl, fun aw dx na ndx ne => ?_⟩
      have nk : aw ≠ kk := fun e => by rw [e, ekk] at na; cases na
      have sb : Same H2 (upd (upd H2 dx (.own aw)) aw (.ins CW dx [])) := fun b o e => (upd_ne (ne_of_none e na)).trans ((upd_ne (ne_of_none e ndx)).trans e)
      have eaw : (upd (upd H2 dx (.own aw)) aw (.ins CW dx [])) aw = some (.ins CW dx []) := upd_same
      have naw : NewF H aw := .of f2 hw2 na
      generalize upd (upd H2 dx (.own aw)) aw (.ins CW dx []) = H3 at sb eaw
      refine ⟨aw, dx, kk, _, rfl, eaw, sb _ _ ekk, (show ([.inr "k", .inr "other"] : List Key).Nodup by decide +kernel), by show 2 ≤ 1000; decide, fun kd sd H4 nkd nsd c4 ekd wd4 => ⟨rfl, ?_⟩⟩
      have s24 : Same H2 H4 := fun b o e => c4 _ _ (sb _ _ e) (by simpa using ne_of_none e na)
      have f4 := f2.trans (.same s24)
      have nsd' : NewF H sd := .of (f2.trans (.same sb)) (wellS hw2 sb) nsd
      have hw4 := wellS hw2 s24
      have kk4 : KAt K CK H4 kd hb := ⟨ak, ao, ekd, ha.same5 s24, hao.same5 s24⟩
      have t4 := t2.ext s24
      have htb4 := P'.dv s24 htb2
      clear sb c4 ekk ha hao na ndx ne nk
      refine ⟨_, rfl, tb, rfl, fun am rl H5 nam nrl s5 eam erl => ⟨by show 2 ≤ sizeLine; decide, fun t nt => ?_⟩⟩
      have cur5 : Cur K CW CK Pt H H5 w aw kd sd am tb rl hb [] 0 [] 0 za := ⟨wellS hw4 s5, wd4.same s5, kk4.same s5, ⟨eam, P'.dv s5 htb4, [], erl, rfl⟩, t4.ext s5, fun r hr => (nomatch hr), fun r hr => (nomatch hr), f4.trans (.same s5), naw, nsd', .of f4 hw4 nam, .of f4 hw4 nrl⟩
      have cur6 := cur5.same (sm_upd (o := .tup [V.ref aw, V.ref am]) nt)
      refine ⟨t, _, rfl, SqT.of upd_same, rfl, _, _, rfl, _, _, rfl, rfl, ?_⟩
      generalize upd H5 t (.tup [V.ref aw, V.ref am]) = H6 at cur6
      clear cur5 eam erl s5 nam nrl nt wd4 kk4 t4 htb4 f4 hw4 s24 t2 f2 hw2 htb2 hk2 ekd eaw nkd nsd naw nsd'
      show tSeq _ _ _ [some (.ref w), some (.ref tb), some (.ref kk), some (.ref aw), some (.ref am), none, none, none, none, none, none, none, none, none, none] H6
      -- how often
      refine ⟨_, rfl, w, 6, za, rfl, cur6.well, by decide, by decide, by omega, by omega, fun d zb H7 d0 d1 zb1 zb2 hw7 b7 => ⟨_, _, rfl, rfl, ?_⟩⟩
      have cur7 := cur6.draw R.ne b7 hw7
      clear cur6 b7 hw7
      show tSeq _ _ _ [some (.ref w), some (.ref tb), some (.ref kk), some (.ref aw), some (.ref am), some (.int (1 + d)), none, none, none, none, none, none, none, none, none] H7
      refine ⟨_, rfl, 1 + d, rfl, by omega, by omega, for_range (lo := 0) (n := (1 + d).toNat) (fun i σ' H' => ∃ (rows : List Ro) (last : Nat) (z' : Int), Sl1 w aw am (some (.int (1 + d))) σ' ∧ Cur K CW CK Pt H H' w aw kd sd am tb rl hb rows last rows last z' ∧ RowsOk rows last ∧ rows.length = i ∧ zb ≤ z' ∧ z' ≤ zb + 20 * (i : Int))
        ⟨[], 0, zb, ⟨_, _, _, _, _, _, _, _, _, rfl⟩, cur7, ⟨fun r hr => (nomatch hr), List.nodup_nil, fun r hr => (nomatch hr)⟩, rfl, by omega, by omega⟩ (fun i σ' H' hi h => ?_) (fun σ' H8 h => ?_)⟩
      · obtain ⟨rows, last, z', ⟨x1, x2, x6, x7, x8, x9, x10, x11, x12, rfl⟩, cu, ro, lr, zz1, zz2⟩ := h
        refine ⟨H, w, aw, kd, sd, am, tb, rl, hb, rows, last, z', some (.int (1 + d)), ⟨_, _, _, _, _, _, _, _, _, rfl⟩, cu, ro, by omega, by omega, by omega, fun σ2 H2 r last' z2 sl cu2 ro2 zz3 zz4 => ⟨_, last', z2, sl, cu2, ro2, by rw [List.length_append, lr]; rfl, by omega, by push_cast; omega⟩⟩
      obtain ⟨rows, last, zc, ⟨x1, x2, x6, x7, x8, x9, x10, x11, x12, rfl⟩, cur8, ro, lr, zz1, zz2⟩ := h
      have zz3 : zc ≤ zb + 120 := by omega
      have lr6 : rows.length ≤ 6 := by omega
      clear cur7 zz2 lr
      show tSeq _ _ _ [some (.ref w), x1, x2, some (.ref aw), some (.ref am), some (.int (1 + d)), x6, x7, x8, x9, x10, x11, x12, none, none] H8
      -- the odd things
      refine ⟨by show 3 ≤ sizeLine; decide, fun t6 n6 => ⟨by show 3 ≤ sizeLine; decide, fun tT nT => ⟨by show 0 ≤ sizeLine; decide, fun e ne => fun m nm => ⟨_, rfl, by show 8 ≤ sizeLine; decide, fun lo nlo => ?_⟩⟩⟩⟩
      have s1 := sm_upd (o := .tup [V.str "#", V.str "k", V.int 60]) n6
      have s2 := sm_upd (o := .tup [V.str "#", V.str "k", V.bl true]) nT
      have s3 := sm_upd (o := .lst []) ne
      have s4 := sm_upd (o := .dK []) nm
      have s5 := sm_upd (o := .lst [.non, .str "x", .int 3, .ref t6, .ref tT, .ref e, .ref m, .ref aw]) nlo
      have odd9 : OddAt (upd (upd (upd (upd (upd H8 t6 (.tup [V.str "#", V.str "k", V.int 60])) tT (.tup [V.str "#", V.str "k", V.bl true])) e (.lst [])) m (.dK [])) lo (.lst [.non, .str "x", .int 3, .ref t6, .ref tT, .ref e, .ref m, .ref aw])) lo aw :=
        ⟨t6, tT, e, m, upd_same, s5 _ _ (s4 _ _ (s3 _ _ (s2 _ _ upd_same))), s5 _ _ (s4 _ _ (s3 _ _ upd_same)), s5 _ _ (s4 _ _ upd_same), s5 _ _ upd_same⟩
      have cur9 := ((((cur8.same s1).same s2).same s3).same s4).same s5
      generalize upd (upd (upd (upd (upd H8 t6 (.tup [V.str "#", V.str "k", V.int 60])) tT (.tup [V.str "#", V.str "k", V.bl true])) e (.lst [])) m (.dK [])) lo (.lst [.non, .str "x", .int 3, .ref t6, .ref tT, .ref e, .ref m, .ref aw]) = H9 at odd9 cur9
      clear s1 s2 s3 s4 s5 n6 nT ne nm nlo cur8
      show tSeq _ _ _ [some (.ref w), x1, x2, some (.ref aw), some (.ref am), some (.int (1 + d)), x6, x7, x8, x9, some (.ref lo), x11, x12, none, none] H9
      -- what is destroyed
      refine ⟨_, rfl, _, _, rfl, rfl, 8 + (1 + d), rfl, by omega, by omega, for_range (lo := 0) (n := (8 + (1 + d)).toNat) (fun i σ' H' => ∃ (rl' : Addr) (rows' : List Ro) (z' : Int), Sl2 w aw am lo σ' ∧ OddAt H' lo aw ∧ Cur K CW CK Pt H H' w aw kd sd am tb rl' hb rows' last rows' last z' ∧ RowsOk rows' last ∧ rows'.length ≤ 6 ∧ zc ≤ z' ∧ z' ≤ zc + 5 * (i : Int))
        ⟨rl, rows, zc, ⟨_, _, _, _, _, _, _, _, _, rfl⟩, odd9, cur9, ro, lr6, by omega, by omega⟩ (fun i σ' H' hi h => ?_) (fun σ' H10 h => ?_)⟩
      · obtain ⟨rl', rows', z', ⟨y1, y2, y5, y6, y7, y8, y9, y11, y12, rfl⟩, od, cu, ro', lr', zz4, zz5⟩ := h
        refine ⟨H, w, aw, kd, sd, am, tb, rl', lo, hb, rows', last, z', ⟨_, _, _, _, _, _, _, _, _, rfl⟩, od, cu, ro', by omega, by omega, by omega, fun σ2 H2 rl2 rows2 z2 sl od2 cu2 ro2 l2 zz6 zz7 => ⟨rl2, rows2, z2, sl, od2, cu2, ro2, by omega, by omega, by push_cast; omega⟩⟩
      obtain ⟨rl', rows', zd, ⟨y1, y2, y5, y6, y7, y8, y9, y11, y12, rfl⟩, od, cu, ro', lr', zz4, zz5⟩ := h
      have zz6 : zd ≤ zc + 100 := by omega
      clear cur9 odd9 ro zz5 od
      show tSeq _ _ _ [some (.ref w), y1, y2, some (.ref aw), some (.ref am), y5, y6, y7, y8, y9, some (.ref lo), y11, y12, none, none] H10
      -- one more
      have eg := ed_dispN (K := K) (σ := [some (.ref w), y1, y2, some (.ref aw), some (.ref am), y5, y6, y7, y8, y9, some (.ref lo), y11, y12, none, none]) (H := H10) (Ks := []) (by simp) [("a", tC .non, .non), ("b", tC .non, .non), ("c", tC .non, .non)] (fun x hx => by
        simp only [List.mem_cons, List.not_mem_nil, or_false] at hx
        rcases hx with rfl | rfl | rfl <;> exact ed_non) (by simp [kptL, kpt]) (by decide +kernel) (by simp)
      refine ED.seq eg fun gv H11 s11 hg => ?_
      have cu11 := cu.same s11
      clear eg s11 cu
      have hg : Dv (O5 K) H11 (.map abc [vD .non, vD .non, vD .non]) gv := hg
      refine ⟨cu11.tbs, fun H12 eN tT => ?_⟩
      have cu12 := cu11.ext eN tT
      have kg : kpt Kall (.map abc [vD .non, vD .non, vD .non]) = true := by
        have d1 : decide (abc ∈ Kall) = true := by decide +kernel
        simp [kpt, kptL, vD, d1]
      have hg12 := Dv.calm (Calm.ext (CK := CK) eN) _ _ kg hg
      obtain ⟨dx, ew⟩ := cu12.wd.w
      have lkn : ∀ {nm : Str} {n : Int}, (nm == "_kinds") = false → (nm == "_standing") = false → (nm == "_last") = false → (wfl kd sd n).lookup nm = none := fun a b c => (lk_tl a).trans ((lk_tl b).trans ((lk_tl c).trans rfl))
      refine ⟨_, rfl, aw, dx, _, rfl, ew, lkn (by decide +kernel) (by decide +kernel) (by decide +kernel), _, rfl, aw, kd, sd, gv, rows', last, hb, false, vD .non, vD .non, vD .non, rfl, cu12.wd, cu12.kk, hg12, vD_okV .non, vD_okV .non, vD_okV .non, ro'.ok, ro'.le, by omega, fun bt H13 c13 wd13 e13 => ⟨by show 2 ≤ sizeLine; decide, fun t nt => ?_⟩⟩
      have ro2 := ro'.add (ko := false) (a := .non) (b := .non) (c := .non) trivial trivial trivial
      have cm13 := cu12.calmW R.ne c13
      have cu13 := cu12.made R.ne c13 wd13 ro2.ok
      have s14 := sm_upd (o := .tup [V.str "told", .ref bt]) nt
      have e14 : (upd H13 t (.tup [V.str "told", .ref bt])) t = some (.tup [V.str "told", .ref bt]) := upd_same
      generalize upd H13 t (.tup [V.str "told", .ref bt]) = H14 at s14 e14
      have cu14 := cu13.same s14
      have hg14 := P'.dv s14 (Dv.calm cm13 _ _ kg hg12)
      have tdv : ∀ {H9 : Hp} {p b : Addr}, H9 p = some (.tup [V.str "told", .ref b]) → H9 b = some (.tup [.str "#", .str (kname false), .int ((last + 1 : Nat) : Int)]) → Dv (O5 K) H9 (.tup [.str "told", tgD (false, last + 1)]) (.ref p) := fun h1 h2 =>
        ⟨_, _, rfl, .inl (.inl h1), _, _, rfl, rfl, _, _, rfl, ⟨_, _, rfl, .inl (.inl h2), _, _, rfl, rfl, _, _, rfl, rfl, _, _, rfl, rfl, rfl⟩, rfl⟩
      refine ⟨_, rfl, _, rfl, am, tb, rl', gv, rows', last, hb, false, vD .non, vD .non, vD .non, rfl, cu14.md, hg14, vD_okV .non, vD_okV .non, vD_okV .non, by omega, ro'.kd, ro'.ok, fun p2 b2 H15 c15 md15 e15 e16 => ?_⟩
      have cm15 := cu14.calmM R.ne c15
      have cu15 := cu14.lmade R.ne c15 md15 ro2.ok cu14.nb.2.2.2
      refine ⟨_, _, true, Dv.calm cm15 _ _ (by simp [kpt, kptL, tgD, tagOf]) (tdv e14 (s14 _ _ e13)), tdv e16 e15, eqvL_self _ (by simp [plnL, pln, tgD, tagOf]), by simp [dpL, dp, tgD, tagOf], ?_⟩
      exact k zd H15 (by omega) (by omega) cu15.well cu15.tbs cu15.fb
    obtain ⟨t, h1, h2⟩ := main
    exact ⟨t, h1.nox, h2⟩
end
end Kd

set_option Elab.async false
set_option linter.all false
set_option maxRecDepth 100000
set_option maxHeartbeats 4000000
/-! _law_cell_at, law -/
namespace Kd
open PySem PySem.Spec PyProof.Rows L2 Dq Vl Pf Ed ClX LamX
abbrev sCell : Stmt := tp 39
abbrev sLaw : Stmt := tp 59
abbrev NLaw : List Str := ["_law_script", "_law_cell", "_law_well_here", "_law_turn"]
theorem scCell : FnScope ["_law_script", "_law_k"] ["_law_script", "_law_k"] (defScope sCell) := ⟨rfl, rfl, rfl, by decide +kernel, rfl, by decide +kernel, by decide +kernel⟩
theorem scLaw : FnScope NLaw ["_law_script"] (defScope sLaw) := ⟨rfl, rfl, rfl, by decide +kernel, rfl, by decide +kernel, by decide +kernel⟩
def spCell (K : PySem.W.Frag) : Sp := fun vs H Q _ => ∃ (a : Addr) (ns : List Int), vs = [.ref a, .int 0] ∧ SqL K H a (ns.map V.int) ∧ ∀ c : Int, Q (.int c) H
def spLaw (K : PySem.W.Frag) (Pt : Addr) : Sp := fun vs H Q _ => ∃ (a : Addr) (ns : List Int), vs = [.ref a] ∧ SqL K H a (ns.map V.int) ∧ ns.length ≤ 63 ∧ Tabs [(Pt, qL)] H ∧ ∀ H', Q (.bl true) H'
theorem cut_mem {xs : List V} {lo hi : Option Int} {x : V} (h : x ∈ cutV xs lo hi) : x ∈ xs := by
  unfold cutV at h
  exact List.mem_of_mem_drop (List.mem_of_mem_take h)
section
variable {P : Program} {w : World} {K : PySem.W.Frag} {mg : Str → Option Value} {base : Heap}
theorem ok_cell {f : Addr} {fd : FuncData} (F : Fun K "_law_cell_at" "_law_cell_at" sCell f fd) (nl : mg "len" = none) : FnOk P w K mg base CX0 1 f fd ["_law_script", "_law_k"] (spCell K) := by
  refine F.ok scCell (fun vs H Q E h => ?_) (fun cdv A outer s H vs Q E hr h => ?_)
  · obtain ⟨a, ns, rfl, _⟩ := h
    rfl
  · obtain ⟨a, ns, rfl, hS, k⟩ := h
    refine ⟨_, pss_one (ps_ret (pe_ifExp (pt_cmpR op_lt (pv 1) (pe_callB call_len_seq (by rfl) nl PySem.boot_len (pa_cons (pv 0) pa_nil)) (nomark _)) (pe_ix ix_list (pv 0) (pv 1) (fun _ _ => rfl)) pe_int)), ?_⟩
    refine ⟨_, rfl, _, rfl, a, _, rfl, .inl hS, _, _, rfl, rfl, _, rfl, ite2 (fun e => ?_) (fun e => ?_)⟩
    · cases ns with
      | nil => exact absurd e (by simp)
      | cons c r => exact ⟨_, rfl, _, rfl, a, _, 0, _, rfl, rfl, hS, atI_nat (j := 0) (xs := V.int c :: r.map V.int) rfl, k c⟩
    · exact k 0
theorem ok_law {f fC fW fR Pt : Addr} {fd fdC fdW fdR : FuncData} (F : Fun K "law" "law" sLaw f fd) (nr : mg "range" = none)
    (DC : Def P w K mg base 1 "_law_cell_at" fC fdC ["_law_script", "_law_k"] (spCell K)) (DW : Def P w K mg base 1 "_law_well" fW fdW ["_law_cell"] spWell) (DR : Def P w K mg base 9 "_law_right" fR fdR ["_law_well_here"] (spRt Pt)) : FnOk P w K mg base CX0 10 f fd ["_law_script"] (spLaw K Pt) := by
  refine F.ok scLaw (fun vs H Q E h => ?_) (fun cdv A outer s H vs Q E hr h => ?_)
  · obtain ⟨a, ns, rfl, _⟩ := h
    rfl
  · obtain ⟨a, ns, rfl, hS, h63, tb, k⟩ := h
    refine ⟨_, pss_cons (ps_for PassesOwn.never rfl (pi_list (pe_op op_cat (pe_lst (pa_cons (pe_call DC.ok (hr.mono (by decide)) rfl DC.g DC.kp DC.b .nil pass0 (pa_cons (pv 0) (pa_cons pe_int pa_nil))) pa_nil)) (pe_slice sl_list (pv 0) (po_some pe_int) (po_some pe_int)))) (pg_name (i := 1) scLaw.nd rfl (Or.inl rfl))
        (pss_cons (ps_set (i := 2) scLaw.nd rfl (Or.inl rfl) (pe_call DW.ok (hr.mono (by decide)) rfl DW.g DW.kp DW.b .nil pass0 (pa_cons (pv 1) pa_nil)))
        (pss_one (ps_for PassesOwn.never rfl (pi_range1 rfl nr (pa_cons pe_int pa_nil)) (pg_name (i := 3) scLaw.nd rfl (Or.inl rfl))
          (pss_one (ps_if (pt_not (pt_val (pe_call DR.ok hr rfl DR.g DR.kp DR.b .nil pass0 (pa_cons (pv 2) pa_nil)))) (pss_one (ps_ret pe_bl)) pss_nil))))))
      (pss_one (ps_ret pe_bl)), ?_⟩
    have hlen : (cutV (ns.map V.int) (some 1) (some 3)).length ≤ 63 := by
      have z := cutV_length (ns.map V.int) (some 1) (some 3)
      rw [List.length_map] at z
      omega
    refine ⟨_, rfl, a, ns, rfl, hS, fun c0 => ⟨by show 1 ≤ sizeLine; decide, fun p1 hp1 => ?_⟩⟩
    have k1 : Same H (upd H p1 (.lst [V.int c0])) := sm_upd hp1
    refine ⟨_, rfl, _, rfl, _, rfl, a, _, rfl, k1.seq hS, fun p2 hp2 => ?_⟩
    have k2 : Same (upd H p1 (.lst [V.int c0])) (upd (upd H p1 (.lst [V.int c0])) p2 (.lst (cutV (ns.map V.int) (some 1) (some 3)))) := sm_upd hp2
    refine ⟨p1, p2, _, _, rfl, rfl, k2 _ _ upd_same, upd_same, ?_, fun p3 hp3 => ?_⟩
    · have z2 : 1 + (cutV (ns.map V.int) (some 1) (some 3)).length ≤ 64 := by omega
      exact Nat.le_trans z2 (by decide)
    have k3 : Same H (upd (upd (upd H p1 (.lst [V.int c0])) p2 (.lst (cutV (ns.map V.int) (some 1) (some 3)))) p3 (.lst ([V.int c0] ++ cutV (ns.map V.int) (some 1) (some 3)))) := Same.upd (Same.trans k1 k2) hp3
    have g3 : (upd (upd (upd H p1 (.lst [V.int c0])) p2 (.lst (cutV (ns.map V.int) (some 1) (some 3)))) p3 (.lst ([V.int c0] ++ cutV (ns.map V.int) (some 1) (some 3)))) p3 = some (.lst ([V.int c0] ++ cutV (ns.map V.int) (some 1) (some 3))) := upd_same
    generalize (upd (upd (upd H p1 (.lst [V.int c0])) p2 (.lst (cutV (ns.map V.int) (some 1) (some 3)))) p3 (.lst ([V.int c0] ++ cutV (ns.map V.int) (some 1) (some 3)))) = H1 at k3 g3 ⊢
    have allI : ∀ x ∈ ([V.int c0] ++ cutV (ns.map V.int) (some 1) (some 3)), ∃ c : Int, x = .int c := fun x hx => by
      rcases List.mem_append.mp hx with m | m
      · exact ⟨c0, List.mem_singleton.mp m⟩
      · obtain ⟨c, _, e⟩ := List.mem_map.mp (cut_mem m)
        exact ⟨c, e.symm⟩
    refine ⟨p3, rfl, ⟨_, SqL.of g3⟩, for_list (K := K) (a := p3) (xs := [V.int c0] ++ cutV (ns.map V.int) (some 1) (some 3)) (fun i σ H' => (∃ v1 v2 v3 : Option V, σ = [some (.ref a), v1, v2, v3]) ∧ Tabs [(Pt, qL)] H' ∧ H' p3 = some (.lst ([V.int c0] ++ cutV (ns.map V.int) (some 1) (some 3))))
      ⟨⟨_, _, _, rfl⟩, tb.ext k3, g3⟩ (fun i σ H' _ hv => SqL.of hv.2.2) ?_ ?_⟩
    rotate_left
    · rintro σ H' ⟨⟨v1, v2, v3, rfl⟩, _⟩
      exact k _
    rintro i x σ H2 hx ⟨⟨v1, v2, v3, rfl⟩, tb2, f2⟩
    obtain ⟨c, rfl⟩ := allI x (List.mem_of_getElem? hx)
    refine ⟨_, rfl, c, rfl, fun pw o hpw w0 => ?_⟩
    have k4 : Same H2 (upd H2 pw o) := sm_upd hpw
    have np : p3 ≠ pw := fun e => by rw [← e, f2] at hpw; cases hpw
    refine ⟨4, rfl, by decide, by decide, for_range (lo := 0) (n := 4) (fun i σ H' => (∃ v3 : Option V, σ = [some (.ref a), some (.int c), some (.ref pw), v3]) ∧ Tabs [(Pt, qL)] H' ∧ H' p3 = some (.lst ([V.int c0] ++ cutV (ns.map V.int) (some 1) (some 3))) ∧ ∃ z, WellAt H' pw z ∧ 0 ≤ z ∧ z ≤ 1000 * (i : Int))
      ⟨⟨_, rfl⟩, tb2.ext k4, k4 _ _ f2, 0, w0, by omega, by omega⟩ ?_ ?_⟩
    rotate_left
    · rintro σ H' ⟨⟨v3, rfl⟩, t, f, _⟩
      exact ⟨⟨_, _, _, rfl⟩, t, f⟩
    rintro i2 σ H3 hi ⟨⟨v3, rfl⟩, t3, f3, z, wz, hz0, hz1⟩
    refine ⟨_, rfl, pw, z, rfl, wz, hz0, by omega, t3, fun z' H4 z2 z3 w4 t4 f4 => ⟨_, rfl, Vl.iteN rfl ?_⟩⟩
    exact ⟨⟨_, rfl⟩, t4, f4 _ _ f3 np (fun ps q => nomatch q), z', w4, by omega, by push_cast; omega⟩
end
end Kd

set_option Elab.async false
set_option linter.all false
set_option maxRecDepth 100000
set_option maxHeartbeats 4000000
namespace Pf
open PySem PySem.Spec PyProof.Rows L2 Sup NdefX
abbrev P0 : Program := PySem.Challenge.rw_planfirst_k21_objects_that_are_held.prog
/-- the facts of one class, as the head finds them -/
structure ClsF (K : PySem.W.Frag) (x qual : Str) (B f0 C fI cc cda : Addr) (fs : List (Str × Pos)) (p1 : Pos) (body : List Stmt) : Prop where
  aC : PySem.W.nsIn K mainGlobals x = some (some (.ref C))
  xC : ∃ nm q N bs sn sub ab col dd k0 k1 k2 k3 k5, K.lookup C = some (excClassObj nm q C N bs [.ref B, .type "ValueError", .type "Exception", .type "BaseException", .type "object"] true sn sub ab col dd k0 k1 k2 k3 k5 "ValueError.__new__")
  sa : PySem.W.findIn K (.ref C) "__setattr__" = some (some (.builtin "object.__setattr__"))
  ga : PySem.W.findIn K (.ref C) "__getattribute__" = some (some (.builtin "BaseException.__getattribute__"))
  gg : PySem.W.findIn K (.ref C) "__getattr__" = some none
  exC : PySem.W.subIn K (.ref C) (.type "BaseException") = some true
  tyC : PySem.W.typeIn K (.ref C) = some (.type "type")
  kC : PySem.W.keepIn K (.ref C) = true
  hdC : PySem.W.hasDictIn K C = true
  cl : PySem.W.findIn K (.ref C) "__class__" = some (some (.builtin "object.__class__"))
  st : PySem.W.findIn K (.ref C) "__str__" = some (some (.builtin "BaseException.__str__"))
  iC : PySem.W.findIn K (.ref C) "__init__" = some (some (.ref fI))
  tI : PySem.W.typeIn K (.ref fI) = some (.type "function")
  lk : ∃ oc od doc pm ctv osl, K.lookup fI = some ⟨oc, od, .func ((nfI qual fs p1 body cc cda).fd doc pm ctv), osl⟩
  cd : PySem.W.codeIn K (.ref cda) qual = true
  cell : ∃ a b c, K.lookup cc = some ⟨a, b, .cell (some (.ref C)), c⟩
  code : ∃ a b vs sl file tf, K.lookup cda = some ⟨a, b, .fields vs, sl⟩ ∧ vs[2]? = some (.str file tf) ∧ ((P0.main.file : Str) == file) = true
  no : ∀ f ∈ ("told" : Str) :: fs.map (·.1), PySem.W.findIn K (.ref C) f = some none
  sup : PySem.W.ks_superIn K C C "__init__" = some (some (.ref f0))
section
variable {K : PySem.W.Frag} {x qual : Str} {B f0 C fI cc cda : Addr} {fs : List (Str × Pos)} {p1 : Pos} {body : List Stmt}
theorem ClsF.cdOf (F : ClsF K x qual B f0 C fI cc cda fs p1 body) : ∃ cd : ClassData, PySem.W.clsIn K C = some cd ∧ cd.mro = [.ref C, .ref B, .type "ValueError", .type "Exception", .type "BaseException", .type "object"] := by
  obtain ⟨nm, q, N, bs, sn, sub, ab, col, dd, k0, k1, k2, k3, k5, h⟩ := F.xC
  exact ⟨{ name := nm, bases := bs, mro := [.ref C, .ref B, .type "ValueError", .type "Exception", .type "BaseException", .type "object"], ns := N, qualname := q, hasDict := true, slotNames := sn, subclasses := sub, abstract := ab, collection := col, hasDel := false }, by unfold PySem.W.clsIn; rw [h], rfl⟩
theorem ClsF.oex (F : ClsF K x qual B f0 C fI cc cda fs p1 body) : OexC K C := by
  obtain ⟨nm, q, N, bs, sn, sub, ab, col, dd, k0, k1, k2, k3, k5, h⟩ := F.xC
  exact ⟨⟨nm, q, N, bs, _, sn, sub, ab, col, dd, k0, k1, k2, k3, k5, h, rfl⟩, F.sa, F.exC, F.tyC, F.kC⟩
theorem ClsF.mro (F : ClsF K x qual B f0 C fI cc cda fs p1 body) (b : Value) (r : Bool) (h : ([.ref C, .ref B, .type "ValueError", .type "Exception", .type "BaseException", .type "object"] : List Value).contains b = r) : PySem.W.mroIn K C b = some r := by
  obtain ⟨cd, h1, h2⟩ := F.cdOf
  unfold PySem.W.mroIn
  rw [h1, Option.bind_some, h2, h]
  rfl
theorem ClsF.ec (F : ClsF K x qual B f0 C fI cc cda fs p1 body) : ErrC K C := ⟨F.ga, F.gg, F.exC, F.hdC, F.cl, F.mro _ _ (by simp), F.st⟩
theorem ClsF.supT (F : ClsF K x qual B f0 C fI cc cda fs p1 body) (t0 : PySem.W.typeIn K (.ref f0) = some (.type "function")) (n0 : PySem.W.fnIn K f0 = true) (tp : PySem.W.nsIn K cStatics "thirdparty.any" = some none) : SupT P0 K C fI f0 cc cda :=
  ⟨F.oex, F.cell, F.code, F.sup, t0, n0, tp, by decide +kernel⟩
theorem ClsF.iniT (F : ClsF K x qual B f0 C fI cc cda fs p1 body) (t0 : PySem.W.typeIn K (.ref f0) = some (.type "function")) (n0 : PySem.W.fnIn K f0 = true) (tp : PySem.W.nsIn K cStatics "thirdparty.any" = some none) : InitT P0 K C fI f0 cc cda qual fs p1 body :=
  ⟨F.supT t0 n0 tp, F.no, F.lk, F.cd⟩
/-- isinstance of an instance of C against another such class, its base, ValueError -/
theorem ClsF.kitC (F : ClsF K x qual B f0 C fI cc cda fs p1 body) {y qual' : Str} {D fI' cc' cda' : Addr} {fs' : List (Str × Pos)} {p1' : Pos} {body' : List Stmt} (G : ClsF K y qual' B f0 D fI' cc' cda' fs' p1' body') (ne : C ≠ D) (nb : B ≠ D) : PySem.W.kitOne K (.ref C) (.ref D) = some false := by
  obtain ⟨cd, h1, h2⟩ := G.cdOf
  have e1 : ((PySem.W.clsIn K D).isSome && PySem.W.typeIn K (.ref D) == some (.type "type")) = true := by rw [h1, G.tyC]; rfl
  have e2 : PySem.W.subIn K (.ref C) (.ref D) = some false := F.mro _ _ (by simp [Ne.symm ne, Ne.symm nb])
  have e3 : ((Value.ref C) == Value.ref D) = false := by simp [ne]
  unfold PySem.W.kitOne PySem.W.kitCls
  rw [e3]
  simp only [Bool.false_eq_true, if_false]
  rw [if_pos e1]
  exact e2
theorem ClsF.kitB (F : ClsF K x qual B f0 C fI cc cda fs p1 body) (cb : (PySem.W.clsIn K B).isSome = true) (tb : PySem.W.typeIn K (.ref B) = some (.type "type")) : PySem.W.kitOne K (.ref C) (.ref B) = some true := by
  have e1 : ((PySem.W.clsIn K B).isSome && PySem.W.typeIn K (.ref B) == some (.type "type")) = true := by rw [cb, tb]; rfl
  have e2 : PySem.W.subIn K (.ref C) (.ref B) = some true := F.mro _ _ (by simp)
  unfold PySem.W.kitOne PySem.W.kitCls
  by_cases h : ((Value.ref C) == Value.ref B) = true
  · rw [if_pos h]
  · rw [if_neg h]
    simp only
    rw [if_pos e1]
    exact e2
theorem ClsF.kitV (F : ClsF K x qual B f0 C fI cc cda fs p1 body) : PySem.W.kitOne K (.ref C) (.type "ValueError") = some true := by
  have e2 : PySem.W.subIn K (.ref C) (.type "ValueError") = some true := F.mro _ _ (by simp)
  have e1 : PySem.W.kitMeta "ValueError" = true := by decide +kernel
  show (if ((Value.ref C) == Value.type "ValueError") = true then some true else if PySem.W.kitMeta "ValueError" = true then PySem.W.subIn K (.ref C) (.type "ValueError") else none) = some true
  rw [if_neg (by intro z; cases z), if_pos e1]
  exact e2
end
end Pf

set_option Elab.async false
set_option linter.all false
set_option maxRecDepth 100000
set_option maxHeartbeats 8000000
namespace Kd
open PySem PySem.Spec PyProof.Rows L2 Dq Vl ClX Sup NdefX Pf Ed LamX
theorem kitT_of {K : PySem.W.Frag} {C : Addr} {T : String} (h : PySem.W.mroIn K C (.type T) = some false) (e : PySem.W.kitMeta T = true) : PySem.W.kitOne K (.ref C) (.type T) = some false := by
  show (if ((Value.ref C) == Value.type T) = true then some true else if PySem.W.kitMeta T = true then PySem.W.subIn K (.ref C) (.type T) else none) = some false
  rw [if_neg (by intro z; cases z), if_pos e]
  exact h
theorem kitS_of {K : PySem.W.Frag} {C : Addr} : PySem.W.kitOne K (.ref C) (.ref C) = some true := by unfold PySem.W.kitOne; rw [if_pos (beq_self_eq_true _)]
theorem exm_is {K : PySem.W.Frag} {C D : Addr} {r : Bool} (b : PySem.W.subIn K (.ref D) (.type "BaseException") = some true) (c : (PySem.W.clsIn K D).isSome = true) (t : PySem.W.typeIn K (.ref D) = some (.type "type")) (h : PySem.W.subIn K (.ref C) (.ref D) = some r) : PySem.W.exmOne K (.ref C) (.ref D) = some r := by
  have e1 : ((PySem.W.clsIn K D).isSome && PySem.W.typeIn K (.ref D) == some (.type "type")) = true := by rw [c, t]; rfl
  unfold PySem.W.exmOne PySem.W.kitCls
  rw [if_pos (by rw [b]; rfl)]
  simp only
  rw [if_pos e1]
  exact h
theorem sqt_s {K : PySem.W.Frag} {T : Addr} {od : Option Addr} {n : Nat} {sl : Array (Option Value)} {t1 t2 t3 : Tok} (h : K.lookup T = some ⟨.type "tuple", od, .seq #[.str "wanted" t1, .str "open" t2, .str "filled" t3] n, sl⟩) (H : Hp) : SqT K H T (srts.map V.str) :=
  .inr ⟨_, _, _, h, rfl, rfl, by show 3 ≤ sizeLine; decide, .cons ⟨_, rfl⟩ (.cons ⟨_, rfl⟩ (.cons ⟨_, rfl⟩ .nil))⟩
theorem kb_h {K : PySem.W.Frag} {f TH : Addr} {fd : FuncData} (F : FunD K "__init__" "Kind.__init__" (defArgs sKI) (defBody sKI) (defScope sKI) [] [(("single" : Str), (.non : V)), (("holds" : Str), (.ref TH : V))] f fd) : ∃ g, KBn K fd PKI 4 ["holds"] g gVk := by
  obtain ⟨mv, h⟩ := F.kbinds0 (ps := PKI) 4 ["holds"] [(("single" : Str), (.non : V))] (fun vs mz zs => vs ++ (mz ++ zs)) (by simp) (fun q h => by rw [List.mem_singleton.mp h]; exact List.mem_cons_self) (fun r1 r2 r3 => r1.append (r2.append r3)) (fun D doc pm an cdv ct us mv ws h1 h2 h3 => by
    match us, h1, mv, h2, ws, h3 with
    | [_, _, _, _], _, [_], _, [_], _ =>
      refine ⟨_, _, _, _, _, _, rfl, rfl, ?_⟩
      rfl)
  exact ⟨_, h⟩
/-- the walk, where the def called x makes lambdas -/
theorem walk_tab {l : PySem.W.OpenLaw} {n k : Nat} {q : Program} {loose : List Str} {XP : (Str → Option Value) → Heap → Prop} {YP : World → Heap → Prop} {d : DefRec} {K : Params → PySem.W.Frag} {CX : World → CXT} {x : Str} (y : Str)
    (hn : l.most = some n) (hn2 : n ≤ sizeLine) (hdf : d.params.defaults = []) (hr : Room k callerA) (hrec : ((recsOf q).find? (fun e => e.name == y)).isSome = true) (hY : ∀ (w : World) (h : Heap), YP w h → (K w.params).In h)
    (F : ∀ (w : World) (mg : Str → Option Value) (fa : Addr) (h : Heap), (K w.params).In h → h.Ns mainGlobals mg → mg d.name = some (.ref fa) → (∀ c P, PySem.W.tabIn (K w.params) y = some (c, P) → PySem.W.CodeHd h c P ∧ h.get? P = some { cls := .none, data := .fields #[] }) → LawAtS l w (K w.params) (CX w) k n x mg fa h)
    (hCX : ∀ (w : World) (H : Hp) (s : Shared) (e : Value) (s' : Shared), CX w [] H s (fun _ _ _ => False) e s' → False) :
    PySem.W.WalkO q loose XP YP l.row.toRowW d [] (fun f vs => PySem.call f vs) := by
  refine Att.attach_callB hn hdf fun w s₀ s₁ mg mb fa o pm cd doc a vs ns G Y ho hd hcd hmg hobj hints hlen hbits hg => ?_
  have KX := hY w _ Y
  obtain ⟨dR, hR⟩ := Option.isSome_iff_exists.mp hrec
  obtain ⟨fd, cs, sp, hT, nT, C, hb, hsp, hF⟩ := F w mg fa _ KX G.T.g hmg fun c P e => PySem.W.tab_of G.T KX hR e
  exact law_callTs KX G.T.g G.T.b G.T.builtins G.T.nolimit hg hT nT C G.T.bmain hobj hints (Nat.le_trans hlen hn2) hr hF hb (fun H hH hS => hsp H a ns hlen hbits hH hS) fun H e s' => hCX w H s₁ e s'
theorem all_mk {w : World} {K : PySem.W.Frag} {h : Heap} {mg : Str → Option Value} {fa cK cW B f0 cR PR CN fIN ccN cdaN CT fIT ccT cdaT CG fIG ccG cdaG CU fIU ccU cdaU DI TH aS fNam fUnl fWrg fAmo fGvs fGiv fRdg fMds fMad fHld fInt fTag fFrs fAC fTI fCel fWel fDrw fOne fKey fMo fLT fLA fLM fTk fRow fLMk fLI fLH fLD fSai fAl fTb fNm fRgt fLaw fWI fTh fMak fDes fHas fRG fRT fNT fMM fSu fHB fKI : Addr} (X : K.In h) (G : h.Ns mainGlobals mg) (hfa : mg "law" = some (.ref fa))
    {odB anB odS dR : Option Addr} {oslB slS slR : Array (Option Value)} {ocB kVB docB pmB cdvB ctB oR : Value} {vsR : Array Value} {nS : Nat} {t1 t2 t3 tM : Tok}
    {odNam anNam odUnl anUnl odWrg anWrg odAmo anAmo odGvs anGvs odGiv anGiv odRdg anRdg odMds anMds odMad anMad odHld anHld odInt anInt odTag anTag odFrs anFrs odAC anAC odTI anTI odCel anCel odWel anWel odDrw anDrw odOne anOne odKey anKey odMo anMo odLT anLT odLA anLA odLM anLM odTk anTk odRow anRow odLMk anLMk odLI anLI odLH anLH odLD anLD odSai anSai odAl anAl odTb anTb odNm anNm odRgt anRgt odLaw anLaw odWI anWI odTh anTh odMak anMak odDes anDes odHas anHas odRG anRG odRT anRT odNT anNT odMM anMM odSu anSu odHB anHB odKI anKI : Option Addr} {slNam slUnl slWrg slAmo slGvs slGiv slRdg slMds slMad slHld slInt slTag slFrs slAC slTI slCel slWel slDrw slOne slKey slMo slLT slLA slLM slTk slRow slLMk slLI slLH slLD slSai slAl slTb slNm slRgt slLaw slWI slTh slMak slDes slHas slRG slRT slNT slMM slSu slHB slKI : Array (Option Value)} {ocNam kVNam dcNam pmNam cdNam ctNam ocUnl kVUnl dcUnl pmUnl cdUnl ctUnl ocWrg kVWrg dcWrg pmWrg cdWrg ctWrg ocAmo kVAmo dcAmo pmAmo cdAmo ctAmo ocGvs kVGvs dcGvs pmGvs cdGvs ctGvs ocGiv kVGiv dcGiv pmGiv cdGiv ctGiv ocRdg kVRdg dcRdg pmRdg cdRdg ctRdg ocMds kVMds dcMds pmMds cdMds ctMds ocMad kVMad dcMad pmMad cdMad ctMad ocHld kVHld dcHld pmHld cdHld ctHld ocInt kVInt dcInt pmInt cdInt ctInt ocTag kVTag dcTag pmTag cdTag ctTag ocFrs kVFrs dcFrs pmFrs cdFrs ctFrs ocAC kVAC dcAC pmAC cdAC ctAC ocTI kVTI dcTI pmTI cdTI ctTI ocCel kVCel dcCel pmCel cdCel ctCel ocWel kVWel dcWel pmWel cdWel ctWel ocDrw kVDrw dcDrw pmDrw cdDrw ctDrw ocOne kVOne dcOne pmOne cdOne ctOne ocKey kVKey dcKey pmKey cdKey ctKey ocMo kVMo dcMo pmMo cdMo ctMo ocLT kVLT dcLT pmLT cdLT ctLT ocLA kVLA dcLA pmLA cdLA ctLA ocLM kVLM dcLM pmLM cdLM ctLM ocTk kVTk dcTk pmTk cdTk ctTk ocRow kVRow dcRow pmRow cdRow ctRow ocLMk kVLMk dcLMk pmLMk cdLMk ctLMk ocLI kVLI dcLI pmLI cdLI ctLI ocLH kVLH dcLH pmLH cdLH ctLH ocLD kVLD dcLD pmLD cdLD ctLD ocSai kVSai dcSai pmSai cdSai ctSai ocAl kVAl dcAl pmAl cdAl ctAl ocTb kVTb dcTb pmTb cdTb ctTb ocNm kVNm dcNm pmNm cdNm ctNm ocRgt kVRgt dcRgt pmRgt ctRgt ocLaw kVLaw dcLaw pmLaw cdLaw ctLaw ocWI kVWI dcWI pmWI cdWI ctWI ocTh kVTh dcTh pmTh cdTh ctTh ocMak kVMak dcMak pmMak cdMak ctMak ocDes kVDes dcDes pmDes cdDes ctDes ocHas kVHas dcHas pmHas cdHas ctHas ocRG kVRG dcRG pmRG cdRG ctRG ocRT kVRT dcRT pmRT cdRT ctRT ocNT kVNT dcNT pmNT cdNT ctNT ocMM kVMM dcMM pmMM cdMM ctMM ocSu kVSu dcSu pmSu cdSu ctSu ocHB kVHB dcHB pmHB cdHB ctHB ocKI dcKI pmKI cdKI ctKI : Value}
    (aB : PySem.W.nsIn K mainGlobals "PlanError" = some (some (.ref B)))
    (iB : PySem.W.findIn K (.ref B) "__init__" = some (some (.ref f0)))
    (lB : K.lookup f0 = some ⟨ocB, odB, .func (PySem.W.fnOf "__init__" "PlanError.__init__" (bA ⟨44, 17, 44, 21⟩ ⟨44, 24, 44, 28⟩) (bB ⟨45, 8, 45, 12⟩ ⟨45, 8, 45, 17⟩ ⟨45, 20, 45, 24⟩ ⟨45, 8, 45, 24⟩) bS .none kVB docB pmB anB cdvB ctB), oslB⟩)
    (cB : PySem.W.codeIn K cdvB "PlanError.__init__" = true)
    (tB0 : PySem.W.typeIn K (.ref f0) = some (.type "function"))
    (nB0 : PySem.W.fnIn K f0 = true)
    (tp : PySem.W.nsIn K cStatics "thirdparty.any" = some none)
    (aNam : PySem.W.nsIn K mainGlobals "is_name" = some (some (.ref fNam)))
    (lNam : K.lookup fNam = some ⟨ocNam, odNam, .func (PySem.W.fnOf "is_name" "is_name" (defArgs sName) (defBody sName) (defScope sName) .none kVNam dcNam pmNam anNam cdNam ctNam), slNam⟩)
    (cNam : PySem.W.codeIn K cdNam "is_name" = true)
    (kNam : PySem.W.keepIn K (.ref fNam) = true)
    (aUnl : PySem.W.nsIn K mainGlobals "are_unlike" = some (some (.ref fUnl)))
    (lUnl : K.lookup fUnl = some ⟨ocUnl, odUnl, .func (PySem.W.fnOf "are_unlike" "are_unlike" (defArgs sUnl) (defBody sUnl) (defScope sUnl) .none kVUnl dcUnl pmUnl anUnl cdUnl ctUnl), slUnl⟩)
    (cUnl : PySem.W.codeIn K cdUnl "are_unlike" = true)
    (kUnl : PySem.W.keepIn K (.ref fUnl) = true)
    (aWrg : PySem.W.nsIn K mainGlobals "_wrong_part" = some (some (.ref fWrg)))
    (lWrg : K.lookup fWrg = some ⟨ocWrg, odWrg, .func (PySem.W.fnOf "_wrong_part" "_wrong_part" (defArgs sWrg) (defBody sWrg) (defScope sWrg) .none kVWrg dcWrg pmWrg anWrg cdWrg ctWrg), slWrg⟩)
    (cWrg : PySem.W.codeIn K cdWrg "_wrong_part" = true)
    (kWrg : PySem.W.keepIn K (.ref fWrg) = true)
    (aAmo : PySem.W.nsIn K mainGlobals "_is_among" = some (some (.ref fAmo)))
    (lAmo : K.lookup fAmo = some ⟨ocAmo, odAmo, .func (PySem.W.fnOf "_is_among" "_is_among" (defArgs sAmo) (defBody sAmo) (defScope sAmo) .none kVAmo dcAmo pmAmo anAmo cdAmo ctAmo), slAmo⟩)
    (cAmo : PySem.W.codeIn K cdAmo "_is_among" = true)
    (kAmo : PySem.W.keepIn K (.ref fAmo) = true)
    (aGvs : PySem.W.nsIn K mainGlobals "_are_given" = some (some (.ref fGvs)))
    (lGvs : K.lookup fGvs = some ⟨ocGvs, odGvs, .func (PySem.W.fnOf "_are_given" "_are_given" (defArgs sGvs) (defBody sGvs) (defScope sGvs) .none kVGvs dcGvs pmGvs anGvs cdGvs ctGvs), slGvs⟩)
    (cGvs : PySem.W.codeIn K cdGvs "_are_given" = true)
    (kGvs : PySem.W.keepIn K (.ref fGvs) = true)
    (aGiv : PySem.W.nsIn K mainGlobals "_is_given" = some (some (.ref fGiv)))
    (lGiv : K.lookup fGiv = some ⟨ocGiv, odGiv, .func (PySem.W.fnOf "_is_given" "_is_given" (defArgs sGiv) (defBody sGiv) (defScope sGiv) .none kVGiv dcGiv pmGiv anGiv cdGiv ctGiv), slGiv⟩)
    (cGiv : PySem.W.codeIn K cdGiv "_is_given" = true)
    (kGiv : PySem.W.keepIn K (.ref fGiv) = true)
    (aRdg : PySem.W.nsIn K mainGlobals "_is_reading" = some (some (.ref fRdg)))
    (lRdg : K.lookup fRdg = some ⟨ocRdg, odRdg, .func (PySem.W.fnOf "_is_reading" "_is_reading" (defArgs sRdg) (defBody sRdg) (defScope sRdg) .none kVRdg dcRdg pmRdg anRdg cdRdg ctRdg), slRdg⟩)
    (cRdg : PySem.W.codeIn K cdRdg "_is_reading" = true)
    (kRdg : PySem.W.keepIn K (.ref fRdg) = true)
    (aMds : PySem.W.nsIn K mainGlobals "_are_made" = some (some (.ref fMds)))
    (lMds : K.lookup fMds = some ⟨ocMds, odMds, .func (PySem.W.fnOf "_are_made" "_are_made" (defArgs sMds) (defBody sMds) (defScope sMds) .none kVMds dcMds pmMds anMds cdMds ctMds), slMds⟩)
    (cMds : PySem.W.codeIn K cdMds "_are_made" = true)
    (kMds : PySem.W.keepIn K (.ref fMds) = true)
    (aMad : PySem.W.nsIn K mainGlobals "_is_made" = some (some (.ref fMad)))
    (lMad : K.lookup fMad = some ⟨ocMad, odMad, .func (PySem.W.fnOf "_is_made" "_is_made" (defArgs sMad) (defBody sMad) (defScope sMad) .none kVMad dcMad pmMad anMad cdMad ctMad), slMad⟩)
    (cMad : PySem.W.codeIn K cdMad "_is_made" = true)
    (kMad : PySem.W.keepIn K (.ref fMad) = true)
    (aHld : PySem.W.nsIn K mainGlobals "_are_held" = some (some (.ref fHld)))
    (lHld : K.lookup fHld = some ⟨ocHld, odHld, .func (PySem.W.fnOf "_are_held" "_are_held" (defArgs sHld) (defBody sHld) (defScope sHld) .none kVHld dcHld pmHld anHld cdHld ctHld), slHld⟩)
    (cHld : PySem.W.codeIn K cdHld "_are_held" = true)
    (kHld : PySem.W.keepIn K (.ref fHld) = true)
    (aInt : PySem.W.nsIn K mainGlobals "is_integer" = some (some (.ref fInt)))
    (lInt : K.lookup fInt = some ⟨ocInt, odInt, .func (PySem.W.fnOf "is_integer" "is_integer" (defArgs sInt) (defBody sInt) (defScope sInt) .none kVInt dcInt pmInt anInt cdInt ctInt), slInt⟩)
    (cInt : PySem.W.codeIn K cdInt "is_integer" = true)
    (kInt : PySem.W.keepIn K (.ref fInt) = true)
    (aTag : PySem.W.nsIn K mainGlobals "is_tag" = some (some (.ref fTag)))
    (lTag : K.lookup fTag = some ⟨ocTag, odTag, .func (PySem.W.fnOf "is_tag" "is_tag" (defArgs sTag) (defBody sTag) (defScope sTag) .none kVTag dcTag pmTag anTag cdTag ctTag), slTag⟩)
    (cTag : PySem.W.codeIn K cdTag "is_tag" = true)
    (kTag : PySem.W.keepIn K (.ref fTag) = true)
    (aFrs : PySem.W.nsIn K mainGlobals "fresh" = some (some (.ref fFrs)))
    (lFrs : K.lookup fFrs = some ⟨ocFrs, odFrs, .func (PySem.W.fnOf "fresh" "fresh" (defArgs sFrs) (defBody sFrs) (defScope sFrs) .none kVFrs dcFrs pmFrs anFrs cdFrs ctFrs), slFrs⟩)
    (cFrs : PySem.W.codeIn K cdFrs "fresh" = true)
    (kFrs : PySem.W.keepIn K (.ref fFrs) = true)
    (aAC : PySem.W.nsIn K mainGlobals "_as_chosen" = some (some (.ref fAC)))
    (lAC : K.lookup fAC = some ⟨ocAC, odAC, .func (PySem.W.fnOf "_as_chosen" "_as_chosen" (defArgs sAC) (defBody sAC) (defScope sAC) .none kVAC dcAC pmAC anAC cdAC ctAC), slAC⟩)
    (cAC : PySem.W.codeIn K cdAC "_as_chosen" = true)
    (kAC : PySem.W.keepIn K (.ref fAC) = true)
    (aTI : PySem.W.nsIn K mainGlobals "_tags_in" = some (some (.ref fTI)))
    (lTI : K.lookup fTI = some ⟨ocTI, odTI, .func (PySem.W.fnOf "_tags_in" "_tags_in" (defArgs sTI) (defBody sTI) (defScope sTI) .none kVTI dcTI pmTI anTI cdTI ctTI), slTI⟩)
    (cTI : PySem.W.codeIn K cdTI "_tags_in" = true)
    (kTI : PySem.W.keepIn K (.ref fTI) = true)
    (aCel : PySem.W.nsIn K mainGlobals "_law_cell_at" = some (some (.ref fCel)))
    (lCel : K.lookup fCel = some ⟨ocCel, odCel, .func (PySem.W.fnOf "_law_cell_at" "_law_cell_at" (defArgs sCell) (defBody sCell) (defScope sCell) .none kVCel dcCel pmCel anCel cdCel ctCel), slCel⟩)
    (cCel : PySem.W.codeIn K cdCel "_law_cell_at" = true)
    (kCel : PySem.W.keepIn K (.ref fCel) = true)
    (aWel : PySem.W.nsIn K mainGlobals "_law_well" = some (some (.ref fWel)))
    (lWel : K.lookup fWel = some ⟨ocWel, odWel, .func (PySem.W.fnOf "_law_well" "_law_well" (defArgs Pf.sWell) (defBody Pf.sWell) (defScope Pf.sWell) .none kVWel dcWel pmWel anWel cdWel ctWel), slWel⟩)
    (cWel : PySem.W.codeIn K cdWel "_law_well" = true)
    (kWel : PySem.W.keepIn K (.ref fWel) = true)
    (aDrw : PySem.W.nsIn K mainGlobals "_law_draw" = some (some (.ref fDrw)))
    (lDrw : K.lookup fDrw = some ⟨ocDrw, odDrw, .func (PySem.W.fnOf "_law_draw" "_law_draw" (defArgs Pf.sDraw) (defBody Pf.sDraw) (defScope Pf.sDraw) .none kVDrw dcDrw pmDrw anDrw cdDrw ctDrw), slDrw⟩)
    (cDrw : PySem.W.codeIn K cdDrw "_law_draw" = true)
    (kDrw : PySem.W.keepIn K (.ref fDrw) = true)
    (aOne : PySem.W.nsIn K mainGlobals "_law_one" = some (some (.ref fOne)))
    (lOne : K.lookup fOne = some ⟨ocOne, odOne, .func (PySem.W.fnOf "_law_one" "_law_one" (defArgs Pf.sOne) (defBody Pf.sOne) (defScope Pf.sOne) .none kVOne dcOne pmOne anOne cdOne ctOne), slOne⟩)
    (cOne : PySem.W.codeIn K cdOne "_law_one" = true)
    (kOne : PySem.W.keepIn K (.ref fOne) = true)
    (aKey : PySem.W.nsIn K mainGlobals "_law_key" = some (some (.ref fKey)))
    (lKey : K.lookup fKey = some ⟨ocKey, odKey, .func (PySem.W.fnOf "_law_key" "_law_key" (defArgs sKey) (defBody sKey) (defScope sKey) .none kVKey dcKey pmKey anKey cdKey ctKey), slKey⟩)
    (cKey : PySem.W.codeIn K cdKey "_law_key" = true)
    (kKey : PySem.W.keepIn K (.ref fKey) = true)
    (aMo : PySem.W.nsIn K mainGlobals "_law_model" = some (some (.ref fMo)))
    (lMo : K.lookup fMo = some ⟨ocMo, odMo, .func (PySem.W.fnOf "_law_model" "_law_model" (defArgs sMo) (defBody sMo) (defScope sMo) .none kVMo dcMo pmMo anMo cdMo ctMo), slMo⟩)
    (cMo : PySem.W.codeIn K cdMo "_law_model" = true)
    (kMo : PySem.W.keepIn K (.ref fMo) = true)
    (aLT : PySem.W.nsIn K mainGlobals "_law_tag" = some (some (.ref fLT)))
    (lLT : K.lookup fLT = some ⟨ocLT, odLT, .func (PySem.W.fnOf "_law_tag" "_law_tag" (defArgs sLT) (defBody sLT) (defScope sLT) .none kVLT dcLT pmLT anLT cdLT ctLT), slLT⟩)
    (cLT : PySem.W.codeIn K cdLT "_law_tag" = true)
    (kLT : PySem.W.keepIn K (.ref fLT) = true)
    (aLA : PySem.W.nsIn K mainGlobals "_law_around" = some (some (.ref fLA)))
    (lLA : K.lookup fLA = some ⟨ocLA, odLA, .func (PySem.W.fnOf "_law_around" "_law_around" (defArgs sLA) (defBody sLA) (defScope sLA) .none kVLA dcLA pmLA anLA cdLA ctLA), slLA⟩)
    (cLA : PySem.W.codeIn K cdLA "_law_around" = true)
    (kLA : PySem.W.keepIn K (.ref fLA) = true)
    (aLM : PySem.W.nsIn K mainGlobals "_law_marks" = some (some (.ref fLM)))
    (lLM : K.lookup fLM = some ⟨ocLM, odLM, .func (PySem.W.fnOf "_law_marks" "_law_marks" (defArgs sLM) (defBody sLM) (defScope sLM) .none kVLM dcLM pmLM anLM cdLM ctLM), slLM⟩)
    (cLM : PySem.W.codeIn K cdLM "_law_marks" = true)
    (kLM : PySem.W.keepIn K (.ref fLM) = true)
    (aTk : PySem.W.nsIn K mainGlobals "_law_taken" = some (some (.ref fTk)))
    (lTk : K.lookup fTk = some ⟨ocTk, odTk, .func (PySem.W.fnOf "_law_taken" "_law_taken" (defArgs sTk) (defBody sTk) (defScope sTk) .none kVTk dcTk pmTk anTk cdTk ctTk), slTk⟩)
    (cTk : PySem.W.codeIn K cdTk "_law_taken" = true)
    (kTk : PySem.W.keepIn K (.ref fTk) = true)
    (aRow : PySem.W.nsIn K mainGlobals "_law_row" = some (some (.ref fRow)))
    (lRow : K.lookup fRow = some ⟨ocRow, odRow, .func (PySem.W.fnOf "_law_row" "_law_row" (defArgs sRow) (defBody sRow) (defScope sRow) .none kVRow dcRow pmRow anRow cdRow ctRow), slRow⟩)
    (cRow : PySem.W.codeIn K cdRow "_law_row" = true)
    (kRow : PySem.W.keepIn K (.ref fRow) = true)
    (aLMk : PySem.W.nsIn K mainGlobals "_law_make" = some (some (.ref fLMk)))
    (lLMk : K.lookup fLMk = some ⟨ocLMk, odLMk, .func (PySem.W.fnOf "_law_make" "_law_make" (defArgs sLMk) (defBody sLMk) (defScope sLMk) .none kVLMk dcLMk pmLMk anLMk cdLMk ctLMk), slLMk⟩)
    (cLMk : PySem.W.codeIn K cdLMk "_law_make" = true)
    (kLMk : PySem.W.keepIn K (.ref fLMk) = true)
    (aLI : PySem.W.nsIn K mainGlobals "_law_is_tag" = some (some (.ref fLI)))
    (lLI : K.lookup fLI = some ⟨ocLI, odLI, .func (PySem.W.fnOf "_law_is_tag" "_law_is_tag" (defArgs sLI) (defBody sLI) (defScope sLI) .none kVLI dcLI pmLI anLI cdLI ctLI), slLI⟩)
    (cLI : PySem.W.codeIn K cdLI "_law_is_tag" = true)
    (kLI : PySem.W.keepIn K (.ref fLI) = true)
    (aLH : PySem.W.nsIn K mainGlobals "_law_holds" = some (some (.ref fLH)))
    (lLH : K.lookup fLH = some ⟨ocLH, odLH, .func (PySem.W.fnOf "_law_holds" "_law_holds" (defArgs sLH) (defBody sLH) (defScope sLH) .none kVLH dcLH pmLH anLH cdLH ctLH), slLH⟩)
    (cLH : PySem.W.codeIn K cdLH "_law_holds" = true)
    (kLH : PySem.W.keepIn K (.ref fLH) = true)
    (aLD : PySem.W.nsIn K mainGlobals "_law_destroy" = some (some (.ref fLD)))
    (lLD : K.lookup fLD = some ⟨ocLD, odLD, .func (PySem.W.fnOf "_law_destroy" "_law_destroy" (defArgs sLD) (defBody sLD) (defScope sLD) .none kVLD dcLD pmLD anLD cdLD ctLD), slLD⟩)
    (cLD : PySem.W.codeIn K cdLD "_law_destroy" = true)
    (kLD : PySem.W.keepIn K (.ref fLD) = true)
    (aSai : PySem.W.nsIn K mainGlobals "_law_said" = some (some (.ref fSai)))
    (lSai : K.lookup fSai = some ⟨ocSai, odSai, .func (PySem.W.fnOf "_law_said" "_law_said" (defArgs sSaid) (defBody sSaid) (defScope sSaid) .none kVSai dcSai pmSai anSai cdSai ctSai), slSai⟩)
    (cSai : PySem.W.codeIn K cdSai "_law_said" = true)
    (kSai : PySem.W.keepIn K (.ref fSai) = true)
    (aAl : PySem.W.nsIn K mainGlobals "_law_alike" = some (some (.ref fAl)))
    (lAl : K.lookup fAl = some ⟨ocAl, odAl, .func (PySem.W.fnOf "_law_alike" "_law_alike" (defArgs sAl) (defBody sAl) (defScope sAl) .none kVAl dcAl pmAl anAl cdAl ctAl), slAl⟩)
    (cAl : PySem.W.codeIn K cdAl "_law_alike" = true)
    (kAl : PySem.W.keepIn K (.ref fAl) = true)
    (aTb : PySem.W.nsIn K mainGlobals "_law_tables" = some (some (.ref fTb)))
    (lTb : K.lookup fTb = some ⟨ocTb, odTb, .func (PySem.W.fnOf "_law_tables" "_law_tables" (defArgs sTb) (defBody sTb) (defScope sTb) .none kVTb dcTb pmTb anTb cdTb ctTb), slTb⟩)
    (cTb : PySem.W.codeIn K cdTb "_law_tables" = true)
    (kTb : PySem.W.keepIn K (.ref fTb) = true)
    (aNm : PySem.W.nsIn K mainGlobals "_law_naming" = some (some (.ref fNm)))
    (lNm : K.lookup fNm = some ⟨ocNm, odNm, .func (PySem.W.fnOf "_law_naming" "_law_naming" (defArgs sNm) (defBody sNm) (defScope sNm) .none kVNm dcNm pmNm anNm cdNm ctNm), slNm⟩)
    (cNm : PySem.W.codeIn K cdNm "_law_naming" = true)
    (kNm : PySem.W.keepIn K (.ref fNm) = true)
    (aRgt : PySem.W.nsIn K mainGlobals "_law_right" = some (some (.ref fRgt)))
    (lRgt : K.lookup fRgt = some ⟨ocRgt, odRgt, .func (PySem.W.fnOf "_law_right" "_law_right" (defArgs sRt) (defBody sRt) (defScope sRt) .none kVRgt dcRgt pmRgt anRgt (.ref cR) ctRgt), slRgt⟩)
    (cRgt : PySem.W.codeIn K (.ref cR) "_law_right" = true)
    (kRgt : PySem.W.keepIn K (.ref fRgt) = true)
    (aLaw : PySem.W.nsIn K mainGlobals "law" = some (some (.ref fLaw)))
    (lLaw : K.lookup fLaw = some ⟨ocLaw, odLaw, .func (PySem.W.fnOf "law" "law" (defArgs Kd.sLaw) (defBody Kd.sLaw) (defScope Kd.sLaw) .none kVLaw dcLaw pmLaw anLaw cdLaw ctLaw), slLaw⟩)
    (cLaw : PySem.W.codeIn K cdLaw "law" = true)
    (kLaw : PySem.W.keepIn K (.ref fLaw) = true)
    (coR : K.lookup cR = some ⟨oR, dR, .fields vsR, slR⟩)
    (v11 : vsR[11]? = some (.ref PR))
    (nP : K.lookup PR = none)
    (z_isinstance : PySem.W.nsIn K mainGlobals "isinstance" = some none)
    (z_len : PySem.W.nsIn K mainGlobals "len" = some none)
    (z_int : PySem.W.nsIn K mainGlobals "int" = some none)
    (z_bool : PySem.W.nsIn K mainGlobals "bool" = some none)
    (z_str : PySem.W.nsIn K mainGlobals "str" = some none)
    (z_dict : PySem.W.nsIn K mainGlobals "dict" = some none)
    (z_tuple : PySem.W.nsIn K mainGlobals "tuple" = some none)
    (z_list : PySem.W.nsIn K mainGlobals "list" = some none)
    (z_range : PySem.W.nsIn K mainGlobals "range" = some none)
    (z_super : PySem.W.nsIn K mainGlobals "super" = some none)
    (z_all : PySem.W.nsIn K mainGlobals "all" = some none)
    (z_set : PySem.W.nsIn K mainGlobals "set" = some none)
    (z_sorted : PySem.W.nsIn K mainGlobals "sorted" = some none)
    (aSo : PySem.W.nsIn K mainGlobals "SORTS" = some (some (.ref aS)))
    (lSo : K.lookup aS = some ⟨.type "tuple", odS, .seq #[.str "wanted" t1, .str "open" t2, .str "filled" t3] nS, slS⟩)
    (aMo_ : PySem.W.nsIn K mainGlobals "MOST_ATTRIBUTES" = some (some (.int 8 tM)))
    (acK : PySem.W.nsIn K mainGlobals "Kind" = some (some (.ref cK)))
    (pgcK : PySem.W.plainGet K cK Str.empty = true)
    (hdcK : PySem.W.hasDictIn K cK = true)
    (pocK : PySem.W.plainOver K cK = true)
    (sacK : PySem.W.findIn K (.ref cK) "__setattr__" = some (some (.builtin "object.__setattr__")))
    (mkcK : PySem.W.makesIn K cK = true)
    (kccK : PySem.W.keepIn K (.ref cK) = true)
    (ncK_name : PySem.W.findIn K (.ref cK) "name" = some none)
    (ncK_given : PySem.W.findIn K (.ref cK) "given" = some none)
    (ncK_made : PySem.W.findIn K (.ref cK) "made" = some none)
    (ncK_single : PySem.W.findIn K (.ref cK) "single" = some none)
    (ncK_holds : PySem.W.findIn K (.ref cK) "holds" = some none)
    (ncK_make : PySem.W.findIn K (.ref cK) "make" = some none)
    (acW : PySem.W.nsIn K mainGlobals "World" = some (some (.ref cW)))
    (pgcW : PySem.W.plainGet K cW Str.empty = true)
    (hdcW : PySem.W.hasDictIn K cW = true)
    (pocW : PySem.W.plainOver K cW = true)
    (sacW : PySem.W.findIn K (.ref cW) "__setattr__" = some (some (.builtin "object.__setattr__")))
    (mkcW : PySem.W.makesIn K cW = true)
    (kccW : PySem.W.keepIn K (.ref cW) = true)
    (ncW__kinds : PySem.W.findIn K (.ref cW) "_kinds" = some none)
    (ncW__standing : PySem.W.findIn K (.ref cW) "_standing" = some none)
    (ncW__last : PySem.W.findIn K (.ref cW) "_last" = some none)
    (hacW : PySem.W.findIn K (.ref cW) "__class__" = some (some (.builtin "object.__class__")))
    (hmcW : PySem.W.mroIn K cW (.type "object") = some true)
    (hn : PySem.W.specialIn K (.builtin "object.__class__") "__get__" = some (some (.builtin "getset_descriptor.__get__")))
    (htk : PySem.W.takesIn K (.builtin "object.__class__") = some true)
    (mT_str : PySem.W.mroIn K cW (.type "str") = some false)
    (mT_tuple : PySem.W.mroIn K cW (.type "tuple") = some false)
    (mT_dict : PySem.W.mroIn K cW (.type "dict") = some false)
    (mT_bool : PySem.W.mroIn K cW (.type "bool") = some false)
    (mT_int : PySem.W.mroIn K cW (.type "int") = some false)
    (mT_list : PySem.W.mroIn K cW (.type "list") = some false)
    (aWI : PySem.W.findIn K (.ref cW) "__init__" = some (some (.ref fWI)))
    (iWI : PySem.W.isFn K (.ref fWI) = true)
    (lWI : K.lookup fWI = some ⟨ocWI, odWI, .func (PySem.W.fnOf "__init__" "World.__init__" (defArgs sWI) (defBody sWI) (defScope sWI) .none kVWI dcWI pmWI anWI cdWI ctWI), slWI⟩)
    (cWI : PySem.W.codeIn K cdWI "World.__init__" = true)
    (kWI : PySem.W.keepIn K (.ref fWI) = true)
    (aTh : PySem.W.findIn K (.ref cW) "things" = some (some (.ref fTh)))
    (iTh : PySem.W.isFn K (.ref fTh) = true)
    (lTh : K.lookup fTh = some ⟨ocTh, odTh, .func (PySem.W.fnOf "things" "World.things" (defArgs sTh) (defBody sTh) (defScope sTh) .none kVTh dcTh pmTh anTh cdTh ctTh), slTh⟩)
    (cTh : PySem.W.codeIn K cdTh "World.things" = true)
    (kTh : PySem.W.keepIn K (.ref fTh) = true)
    (aMak : PySem.W.findIn K (.ref cW) "make" = some (some (.ref fMak)))
    (iMak : PySem.W.isFn K (.ref fMak) = true)
    (lMak : K.lookup fMak = some ⟨ocMak, odMak, .func (PySem.W.fnOf "make" "World.make" (defArgs sMake) (defBody sMake) (defScope sMake) .none kVMak dcMak pmMak anMak cdMak ctMak), slMak⟩)
    (cMak : PySem.W.codeIn K cdMak "World.make" = true)
    (kMak : PySem.W.keepIn K (.ref fMak) = true)
    (aDes : PySem.W.findIn K (.ref cW) "destroy" = some (some (.ref fDes)))
    (iDes : PySem.W.isFn K (.ref fDes) = true)
    (lDes : K.lookup fDes = some ⟨ocDes, odDes, .func (PySem.W.fnOf "destroy" "World.destroy" (defArgs sDes) (defBody sDes) (defScope sDes) .none kVDes dcDes pmDes anDes cdDes ctDes), slDes⟩)
    (cDes : PySem.W.codeIn K cdDes "World.destroy" = true)
    (kDes : PySem.W.keepIn K (.ref fDes) = true)
    (aHas : PySem.W.findIn K (.ref cW) "_has" = some (some (.ref fHas)))
    (iHas : PySem.W.isFn K (.ref fHas) = true)
    (lHas : K.lookup fHas = some ⟨ocHas, odHas, .func (PySem.W.fnOf "_has" "World._has" (defArgs sHas) (defBody sHas) (defScope sHas) .none kVHas dcHas pmHas anHas cdHas ctHas), slHas⟩)
    (cHas : PySem.W.codeIn K cdHas "World._has" = true)
    (kHas : PySem.W.keepIn K (.ref fHas) = true)
    (aRG : PySem.W.findIn K (.ref cW) "_refuse_gone" = some (some (.ref fRG)))
    (iRG : PySem.W.isFn K (.ref fRG) = true)
    (lRG : K.lookup fRG = some ⟨ocRG, odRG, .func (PySem.W.fnOf "_refuse_gone" "World._refuse_gone" (defArgs sRG) (defBody sRG) (defScope sRG) .none kVRG dcRG pmRG anRG cdRG ctRG), slRG⟩)
    (cRG : PySem.W.codeIn K cdRG "World._refuse_gone" = true)
    (kRG : PySem.W.keepIn K (.ref fRG) = true)
    (aRT : PySem.W.findIn K (.ref cW) "_refuse_taken" = some (some (.ref fRT)))
    (iRT : PySem.W.isFn K (.ref fRT) = true)
    (lRT : K.lookup fRT = some ⟨ocRT, odRT, .func (PySem.W.fnOf "_refuse_taken" "World._refuse_taken" (defArgs sRT) (defBody sRT) (defScope sRT) .none kVRT dcRT pmRT anRT cdRT ctRT), slRT⟩)
    (cRT : PySem.W.codeIn K cdRT "World._refuse_taken" = true)
    (kRT : PySem.W.keepIn K (.ref fRT) = true)
    (aNT : PySem.W.findIn K (.ref cW) "_next_tag" = some (some (.ref fNT)))
    (iNT : PySem.W.isFn K (.ref fNT) = true)
    (lNT : K.lookup fNT = some ⟨ocNT, odNT, .func (PySem.W.fnOf "_next_tag" "World._next_tag" (defArgs sNT) (defBody sNT) (defScope sNT) .none kVNT dcNT pmNT anNT cdNT ctNT), slNT⟩)
    (cNT : PySem.W.codeIn K cdNT "World._next_tag" = true)
    (kNT : PySem.W.keepIn K (.ref fNT) = true)
    (aMM : PySem.W.findIn K (.ref cW) "_mark" = some (some (.ref fMM)))
    (iMM : PySem.W.isFn K (.ref fMM) = true)
    (lMM : K.lookup fMM = some ⟨ocMM, odMM, .func (PySem.W.fnOf "_mark" "World._mark" (defArgs sMk) (defBody sMk) (defScope sMk) .none kVMM dcMM pmMM anMM cdMM ctMM), slMM⟩)
    (cMM : PySem.W.codeIn K cdMM "World._mark" = true)
    (kMM : PySem.W.keepIn K (.ref fMM) = true)
    (aSu : PySem.W.findIn K (.ref cW) "_surround" = some (some (.ref fSu)))
    (iSu : PySem.W.isFn K (.ref fSu) = true)
    (lSu : K.lookup fSu = some ⟨ocSu, odSu, .func (PySem.W.fnOf "_surround" "World._surround" (defArgs sSu) (defBody sSu) (defScope sSu) .none kVSu dcSu pmSu anSu cdSu ctSu), slSu⟩)
    (cSu : PySem.W.codeIn K cdSu "World._surround" = true)
    (kSu : PySem.W.keepIn K (.ref fSu) = true)
    (aHB : PySem.W.findIn K (.ref cW) "_held_by" = some (some (.ref fHB)))
    (iHB : PySem.W.isFn K (.ref fHB) = true)
    (lHB : K.lookup fHB = some ⟨ocHB, odHB, .func (PySem.W.fnOf "_held_by" "World._held_by" (defArgs sHB) (defBody sHB) (defScope sHB) .none kVHB dcHB pmHB anHB cdHB ctHB), slHB⟩)
    (cHB : PySem.W.codeIn K cdHB "World._held_by" = true)
    (kHB : PySem.W.keepIn K (.ref fHB) = true)
    (aKI : PySem.W.findIn K (.ref cK) "__init__" = some (some (.ref fKI)))
    (iKI : PySem.W.isFn K (.ref fKI) = true)
    (lKI : K.lookup fKI = some ⟨ocKI, odKI, .func (PySem.W.fnOf "__init__" "Kind.__init__" (defArgs sKI) (defBody sKI) (defScope sKI) .none (.ref DI) dcKI pmKI anKI cdKI ctKI), slKI⟩)
    (cKI : PySem.W.codeIn K cdKI "Kind.__init__" = true)
    (kKI : PySem.W.keepIn K (.ref fKI) = true)
    (v1 : PySem.W.nsIn K DI "single" = some (some .none))
    (v2 : PySem.W.nsIn K DI "holds" = some (some (.ref TH)))
    (qN : ClsF K "NoKind" "NoKind.__init__" B f0 CN fIN ccN cdaN [("part", ⟨51, 23, 51, 27⟩)] ⟨51, 17, 51, 21⟩ [supCall [.Name "part" ⟨52, 25, 52, 29⟩] ⟨52, 8, 52, 13⟩ ⟨52, 8, 52, 15⟩ ⟨52, 8, 52, 24⟩ ⟨52, 8, 52, 30⟩ ⟨52, 8, 52, 30⟩, setF "part" ⟨53, 8, 53, 12⟩ ⟨53, 8, 53, 17⟩ ⟨53, 20, 53, 24⟩ ⟨53, 8, 53, 24⟩])
    (qT : ClsF K "Taken" "Taken.__init__" B f0 CT fIT ccT cdaT [("tag", ⟨56, 23, 56, 26⟩)] ⟨56, 17, 56, 21⟩ [supCall [.Name "tag" ⟨57, 25, 57, 28⟩] ⟨57, 8, 57, 13⟩ ⟨57, 8, 57, 15⟩ ⟨57, 8, 57, 24⟩ ⟨57, 8, 57, 29⟩ ⟨57, 8, 57, 29⟩, setF "tag" ⟨58, 8, 58, 12⟩ ⟨58, 8, 58, 16⟩ ⟨58, 19, 58, 22⟩ ⟨58, 8, 58, 22⟩])
    (qG : ClsF K "Gone" "Gone.__init__" B f0 CG fIG ccG cdaG [("tag", ⟨61, 23, 61, 26⟩)] ⟨61, 17, 61, 21⟩ [supCall [.Name "tag" ⟨62, 25, 62, 28⟩] ⟨62, 8, 62, 13⟩ ⟨62, 8, 62, 15⟩ ⟨62, 8, 62, 24⟩ ⟨62, 8, 62, 29⟩ ⟨62, 8, 62, 29⟩, setF "tag" ⟨63, 8, 63, 12⟩ ⟨63, 8, 63, 16⟩ ⟨63, 19, 63, 22⟩ ⟨63, 8, 63, 22⟩])
    (qU : ClsF K "InUse" "InUse.__init__" B f0 CU fIU ccU cdaU [("tag", ⟨66, 23, 66, 26⟩)] ⟨66, 17, 66, 21⟩ [supCall [.Name "tag" ⟨67, 25, 67, 28⟩] ⟨67, 8, 67, 13⟩ ⟨67, 8, 67, 15⟩ ⟨67, 8, 67, 24⟩ ⟨67, 8, 67, 29⟩ ⟨67, 8, 67, 29⟩, setF "tag" ⟨68, 8, 68, 12⟩ ⟨68, 8, 68, 16⟩ ⟨68, 19, 68, 22⟩ ⟨68, 8, 68, 22⟩])
    (sGT : PySem.W.subIn K (.ref CG) (.ref CT) = some false)
    (sUT : PySem.W.subIn K (.ref CU) (.ref CT) = some false)
    (sGG : PySem.W.subIn K (.ref CG) (.ref CG) = some true)
    (sUG : PySem.W.subIn K (.ref CU) (.ref CG) = some false)
    (sUU : PySem.W.subIn K (.ref CU) (.ref CU) = some true)
    (tab : ∀ c P, PySem.W.tabIn K "_law_right" = some (c, P) → PySem.W.CodeHd h c P ∧ h.get? P = some { cls := .none, data := .fields #[] }) :
    LawAtS PySem.Challenge.rw_planfirst_k21_objects_that_are_held w K CX0 10 63 "_law_script" mg fa h := by
  have e := hfa.symm.trans (PySem.W.mg_of X G aLaw)
  cases e
  have FNam := fun_mk (st := sName) lNam cNam kNam
  have FUnl := fun_mk (st := sUnl) lUnl cUnl kUnl
  have FWrg := fun_mk (st := sWrg) lWrg cWrg kWrg
  have FAmo := fun_mk (st := sAmo) lAmo cAmo kAmo
  have FGvs := fun_mk (st := sGvs) lGvs cGvs kGvs
  have FGiv := fun_mk (st := sGiv) lGiv cGiv kGiv
  have FRdg := fun_mk (st := sRdg) lRdg cRdg kRdg
  have FMds := fun_mk (st := sMds) lMds cMds kMds
  have FMad := fun_mk (st := sMad) lMad cMad kMad
  have FHld := fun_mk (st := sHld) lHld cHld kHld
  have FInt := fun_mk (st := sInt) lInt cInt kInt
  have FTag := fun_mk (st := sTag) lTag cTag kTag
  have FFrs := fun_mk (st := sFrs) lFrs cFrs kFrs
  have FAC := fun_mk (st := sAC) lAC cAC kAC
  have FTI := fun_mk (st := sTI) lTI cTI kTI
  have FCel := fun_mk (st := sCell) lCel cCel kCel
  have FWel := fun_mk (st := Pf.sWell) lWel cWel kWel
  have FDrw := fun_mk (st := Pf.sDraw) lDrw cDrw kDrw
  have FOne := fun_mk (st := Pf.sOne) lOne cOne kOne
  have FKey := fun_mk (st := sKey) lKey cKey kKey
  have FMo := fun_mk (st := sMo) lMo cMo kMo
  have FLT := fun_mk (st := sLT) lLT cLT kLT
  have FLA := fun_mk (st := sLA) lLA cLA kLA
  have FLM := fun_mk (st := sLM) lLM cLM kLM
  have FTk := fun_mk (st := sTk) lTk cTk kTk
  have FRow := fun_mk (st := sRow) lRow cRow kRow
  have FLMk := fun_mk (st := sLMk) lLMk cLMk kLMk
  have FLI := fun_mk (st := sLI) lLI cLI kLI
  have FLH := fun_mk (st := sLH) lLH cLH kLH
  have FLD := fun_mk (st := sLD) lLD cLD kLD
  have FSai := fun_mk (st := sSaid) lSai cSai kSai
  have FAl := fun_mk (st := sAl) lAl cAl kAl
  have FTb := fun_mk (st := sTb) lTb cTb kTb
  have FNm := fun_mk (st := sNm) lNm cNm kNm
  have FRgt := fun_mk (st := sRt) lRgt cRgt kRgt
  have FLaw := fun_mk (st := Kd.sLaw) lLaw cLaw kLaw
  have FWI := fun_mk (st := sWI) lWI cWI kWI
  have FTh := fun_mk (st := sTh) lTh cTh kTh
  have FMak := fun_mk (st := sMake) lMak cMak kMak
  have FDes := fun_mk (st := sDes) lDes cDes kDes
  have FHas := fun_mk (st := sHas) lHas cHas kHas
  have FRG := fun_mk (st := sRG) lRG cRG kRG
  have FRT := fun_mk (st := sRT) lRT cRT kRT
  have FNT := fun_mk (st := sNT) lNT cNT kNT
  have FMM := fun_mk (st := sMk) lMM cMM kMM
  have FSu := fun_mk (st := sSu) lSu cSu kSu
  have FHB := fun_mk (st := sHB) lHB cHB kHB
  have FKI := fun_mk (st := sKI) lKI cKI kKI
  have bNam := FNam.binds (ps := ["thing"]) fun _ _ _ _ _ _ us hl => match us, hl with | [_], _ => rfl
  have bUnl := FUnl.binds (ps := ["names"]) fun _ _ _ _ _ _ us hl => match us, hl with | [_], _ => rfl
  have bWrg := FWrg.binds (ps := ["name", "given", "made", "single", "holds"]) fun _ _ _ _ _ _ us hl => match us, hl with | [_, _, _, _, _], _ => rfl
  have bAmo := FAmo.binds (ps := ["thing", "names"]) fun _ _ _ _ _ _ us hl => match us, hl with | [_, _], _ => rfl
  have bGvs := FGvs.binds (ps := ["rows"]) fun _ _ _ _ _ _ us hl => match us, hl with | [_], _ => rfl
  have bGiv := FGiv.binds (ps := ["row"]) fun _ _ _ _ _ _ us hl => match us, hl with | [_], _ => rfl
  have bRdg := FRdg.binds (ps := ["thing"]) fun _ _ _ _ _ _ us hl => match us, hl with | [_], _ => rfl
  have bMds := FMds.binds (ps := ["rows", "given"]) fun _ _ _ _ _ _ us hl => match us, hl with | [_, _], _ => rfl
  have bMad := FMad.binds (ps := ["row", "plain"]) fun _ _ _ _ _ _ us hl => match us, hl with | [_, _], _ => rfl
  have bHld := FHld.binds (ps := ["thing", "names"]) fun _ _ _ _ _ _ us hl => match us, hl with | [_, _], _ => rfl
  have bInt := FInt.binds (ps := ["thing"]) fun _ _ _ _ _ _ us hl => match us, hl with | [_], _ => rfl
  have bTag := FTag.binds (ps := ["thing"]) fun _ _ _ _ _ _ us hl => match us, hl with | [_], _ => rfl
  have bFrs := FFrs.binds (ps := ["value"]) fun _ _ _ _ _ _ us hl => match us, hl with | [_], _ => rfl
  have bAC := FAC.binds (ps := ["value", "sort"]) fun _ _ _ _ _ _ us hl => match us, hl with | [_, _], _ => rfl
  have bTI := FTI.binds (ps := ["value"]) fun _ _ _ _ _ _ us hl => match us, hl with | [_], _ => rfl
  have bCel := FCel.binds (ps := ["_law_script", "_law_k"]) fun _ _ _ _ _ _ us hl => match us, hl with | [_, _], _ => rfl
  have bWel := FWel.binds (ps := ["_law_cell"]) fun _ _ _ _ _ _ us hl => match us, hl with | [_], _ => rfl
  have bDrw := FDrw.binds (ps := ["_law_well_here", "_law_often"]) fun _ _ _ _ _ _ us hl => match us, hl with | [_, _], _ => rfl
  have bOne := FOne.binds (ps := ["_law_well_here", "_law_some"]) fun _ _ _ _ _ _ us hl => match us, hl with | [_, _], _ => rfl
  have bKey := FKey.binds (ps := ["_law_value"]) fun _ _ _ _ _ _ us hl => match us, hl with | [_], _ => rfl
  have bMo := FMo.binds (ps := ["_law_tables_here"]) fun _ _ _ _ _ _ us hl => match us, hl with | [_], _ => rfl
  have bLT := FLT.binds (ps := ["_law_m", "_law_kind"]) fun _ _ _ _ _ _ us hl => match us, hl with | [_, _], _ => rfl
  have bLA := FLA.binds (ps := ["_law_table", "_law_kept"]) fun _ _ _ _ _ _ us hl => match us, hl with | [_, _], _ => rfl
  have bLM := FLM.binds (ps := ["_law_m", "_law_kind", "_law_kept"]) fun _ _ _ _ _ _ us hl => match us, hl with | [_, _, _], _ => rfl
  have bTk := FTk.binds (ps := ["_law_m", "_law_kind", "_law_kept", "_law_tag_here"]) fun _ _ _ _ _ _ us hl => match us, hl with | [_, _, _, _], _ => rfl
  have bRow := FRow.binds (ps := ["_law_m", "_law_tag_here"]) fun _ _ _ _ _ _ us hl => match us, hl with | [_, _], _ => rfl
  have bLMk := FLMk.binds (ps := ["_law_m", "_law_kind", "_law_given"]) fun _ _ _ _ _ _ us hl => match us, hl with | [_, _, _], _ => rfl
  have bLI := FLI.binds (ps := ["_law_value"]) fun _ _ _ _ _ _ us hl => match us, hl with | [_], _ => rfl
  have bLH := FLH.binds (ps := ["_law_value", "_law_tag_here"]) fun _ _ _ _ _ _ us hl => match us, hl with | [_, _], _ => rfl
  have bLD := FLD.binds (ps := ["_law_m", "_law_tag_here"]) fun _ _ _ _ _ _ us hl => match us, hl with | [_, _], _ => rfl
  have bSai := FSai.binds (ps := ["_law_ask"]) fun _ _ _ _ _ _ us hl => match us, hl with | [_], _ => rfl
  have bAl := FAl.binds (ps := ["_law_world", "_law_m"]) fun _ _ _ _ _ _ us hl => match us, hl with | [_, _], _ => rfl
  have bTb := FTb.binds (ps := ["_law_well_here"]) fun _ _ _ _ _ _ us hl => match us, hl with | [_], _ => rfl
  have bNm := FNm.binds (ps := ["_law_well_here", "_law_tags"]) fun _ _ _ _ _ _ us hl => match us, hl with | [_, _], _ => rfl
  have bRgt := FRgt.binds (ps := ["_law_well_here"]) fun _ _ _ _ _ _ us hl => match us, hl with | [_], _ => rfl
  have bLaw := FLaw.binds (ps := ["_law_script"]) fun _ _ _ _ _ _ us hl => match us, hl with | [_], _ => rfl
  have bWI := FWI.binds (ps := ["self", "kinds"]) fun _ _ _ _ _ _ us hl => match us, hl with | [_, _], _ => rfl
  have bTh := FTh.binds (ps := ["self"]) fun _ _ _ _ _ _ us hl => match us, hl with | [_], _ => rfl
  have bMak := FMak.binds (ps := ["self", "kind", "given"]) fun _ _ _ _ _ _ us hl => match us, hl with | [_, _, _], _ => rfl
  have bDes := FDes.binds (ps := ["self", "tag"]) fun _ _ _ _ _ _ us hl => match us, hl with | [_, _], _ => rfl
  have bHas := FHas.binds (ps := ["self", "tag"]) fun _ _ _ _ _ _ us hl => match us, hl with | [_, _], _ => rfl
  have bRG := FRG.binds (ps := ["self", "tag"]) fun _ _ _ _ _ _ us hl => match us, hl with | [_, _], _ => rfl
  have bRT := FRT.binds (ps := ["self", "kind", "given", "tag"]) fun _ _ _ _ _ _ us hl => match us, hl with | [_, _, _, _], _ => rfl
  have bNT := FNT.binds (ps := ["self", "kind"]) fun _ _ _ _ _ _ us hl => match us, hl with | [_, _], _ => rfl
  have bMM := FMM.binds (ps := ["self", "tag"]) fun _ _ _ _ _ _ us hl => match us, hl with | [_, _], _ => rfl
  have bSu := FSu.binds (ps := ["self", "tag"]) fun _ _ _ _ _ _ us hl => match us, hl with | [_, _], _ => rfl
  have bHB := FHB.binds (ps := ["self", "tag"]) fun _ _ _ _ _ _ us hl => match us, hl with | [_, _], _ => rfl
  have gNam := PySem.W.mg_of X G aNam
  have gUnl := PySem.W.mg_of X G aUnl
  have gWrg := PySem.W.mg_of X G aWrg
  have gAmo := PySem.W.mg_of X G aAmo
  have gGvs := PySem.W.mg_of X G aGvs
  have gGiv := PySem.W.mg_of X G aGiv
  have gRdg := PySem.W.mg_of X G aRdg
  have gMds := PySem.W.mg_of X G aMds
  have gMad := PySem.W.mg_of X G aMad
  have gHld := PySem.W.mg_of X G aHld
  have gInt := PySem.W.mg_of X G aInt
  have gTag := PySem.W.mg_of X G aTag
  have gFrs := PySem.W.mg_of X G aFrs
  have gAC := PySem.W.mg_of X G aAC
  have gTI := PySem.W.mg_of X G aTI
  have gCel := PySem.W.mg_of X G aCel
  have gWel := PySem.W.mg_of X G aWel
  have gDrw := PySem.W.mg_of X G aDrw
  have gOne := PySem.W.mg_of X G aOne
  have gKey := PySem.W.mg_of X G aKey
  have gMo := PySem.W.mg_of X G aMo
  have gLT := PySem.W.mg_of X G aLT
  have gLA := PySem.W.mg_of X G aLA
  have gLM := PySem.W.mg_of X G aLM
  have gTk := PySem.W.mg_of X G aTk
  have gRow := PySem.W.mg_of X G aRow
  have gLMk := PySem.W.mg_of X G aLMk
  have gLI := PySem.W.mg_of X G aLI
  have gLH := PySem.W.mg_of X G aLH
  have gLD := PySem.W.mg_of X G aLD
  have gSai := PySem.W.mg_of X G aSai
  have gAl := PySem.W.mg_of X G aAl
  have gTb := PySem.W.mg_of X G aTb
  have gNm := PySem.W.mg_of X G aNm
  have gRgt := PySem.W.mg_of X G aRgt
  have gLaw := PySem.W.mg_of X G aLaw
  have n_isinstance := PySem.W.mg_none_of X G z_isinstance
  have n_len := PySem.W.mg_none_of X G z_len
  have n_int := PySem.W.mg_none_of X G z_int
  have n_bool := PySem.W.mg_none_of X G z_bool
  have n_str := PySem.W.mg_none_of X G z_str
  have n_dict := PySem.W.mg_none_of X G z_dict
  have n_tuple := PySem.W.mg_none_of X G z_tuple
  have n_list := PySem.W.mg_none_of X G z_list
  have n_range := PySem.W.mg_none_of X G z_range
  have n_super := PySem.W.mg_none_of X G z_super
  have n_all := PySem.W.mg_none_of X G z_all
  have n_set := PySem.W.mg_none_of X G z_set
  have n_sorted := PySem.W.mg_none_of X G z_sorted
  have gcK := PySem.W.mg_of X G acK
  have gcW := PySem.W.mg_of X G acW
  have gSo := PySem.W.mg_of X G aSo
  have gMo_ := PySem.W.mg_of X G aMo_
  have FDI : FunD K "__init__" "Kind.__init__" (defArgs sKI) (defBody sKI) (defScope sKI) [] [(("single" : Str), (.non : V)), (("holds" : Str), (.ref TH : V))] fKI _ := ⟨⟨ocKI, odKI, .none, .ref DI, dcKI, pmKI, anKI, cdKI, ctKI, slKI, rfl, lKI, cKI, .inl ⟨rfl, rfl⟩, .inr ⟨DI, rfl, fun q hq => by
    simp only [List.mem_cons, List.not_mem_nil, or_false] at hq
    rcases hq with rfl | rfl
    · exact ⟨_, v1, rfl⟩
    · exact ⟨_, v2, rfl⟩
    ⟩⟩, kKI⟩
  obtain ⟨gK, kbK⟩ := kb_h FDI
  have TN : TxtN mg := ⟨n_int, n_len⟩
  have TK : TxtK mg := ⟨n_isinstance, n_str, n_tuple, n_dict, n_bool, n_len, n_all, n_set, n_list⟩
  have TV : TxtV mg := ⟨n_isinstance, n_str, n_tuple, n_dict, n_bool, n_int, n_len, n_all, n_list, n_sorted⟩
  have TS : TxtS K mg aS := ⟨gSo, sqt_s lSo⟩
  have TM : TxtM mg := ⟨_, gMo_⟩
  have TL : TxtL mg := ⟨n_tuple, n_list⟩
  have clK : Cls K cK := ⟨pgcK, hdcK, pocK, sacK⟩
  have clW : Cls K cW := ⟨pgcW, hdcW, pocW, sacW⟩
  have TI : TxtKi K mg cK := ⟨clK, ncK_name, ncK_given, ncK_made, ncK_single, ncK_holds, gcK⟩
  have TW : TxtW K mg cW := ⟨clW, ncW__kinds, ncW__standing, ncW__last, gcW⟩
  have ne : cW ≠ cK := fun e => by rw [e, ncK_make] at aMak; cases aMak
  have IW : InsT K cW := ⟨⟨clW, hacW, hn, htk, hmcW, kitS_of⟩, fun T hT => by
    simp only [List.mem_cons, List.not_mem_nil, or_false] at hT
    rcases hT with rfl | rfl | rfl | rfl | rfl | rfl
    · exact kitT_of mT_str (by decide +kernel)
    · exact kitT_of mT_tuple (by decide +kernel)
    · exact kitT_of mT_dict (by decide +kernel)
    · exact kitT_of mT_bool (by decide +kernel)
    · exact kitT_of mT_int (by decide +kernel)
    · exact kitT_of mT_list (by decide +kernel)⟩
  have W := tw5 K
  have clB : ∀ {x qual fI cc cda fs p1 body C}, ClsF K x qual B f0 C fI cc cda fs p1 body → (PySem.W.clsIn K C).isSome = true := fun q => by
    obtain ⟨cd, e, _⟩ := q.cdOf
    rw [e]; rfl
  have TC : TxtC K mg CT CG CU := ⟨PySem.W.mg_of X G qT.aC, PySem.W.mg_of X G qG.aC, PySem.W.mg_of X G qU.aC, ⟨qT.ga, qT.gg, qT.exC, qT.hdC⟩, ⟨qG.ga, qG.gg, qG.exC, qG.hdC⟩, ⟨qU.ga, qU.gg, qU.exC, qU.hdC⟩, qT.no _ (by simp), qG.no _ (by simp), qU.no _ (by simp),
    exm_is qT.exC (clB qT) qT.tyC sGT, exm_is qT.exC (clB qT) qT.tyC sUT, exm_is qG.exC (clB qG) qG.tyC sGG, exm_is qG.exC (clB qG) qG.tyC sUG, exm_is qU.exC (clB qU) qU.tyC sUU⟩
  obtain ⟨tC, tP⟩ := tab cR PR (by unfold PySem.W.tabIn; rw [aRgt]; simp only; rw [lRgt]; simp only [PySem.W.fnOf]; rw [coR]; simp only; rw [v11])
  refine ⟨PySem.W.fnOf "law" "law" (defArgs Kd.sLaw) (defBody Kd.sLaw) (defScope Kd.sLaw) .none kVLaw dcLaw pmLaw anLaw cdLaw ctLaw, [(cR, PR)], Kd.spLaw K PR, (fun p hp => by rw [List.mem_singleton.mp hp]; exact tP), (fun p hp => by rw [List.mem_singleton.mp hp]; exact nP), (fun p hp => by rw [List.mem_singleton.mp hp]; exact tC), (fun s v => .of_eq rfl), (fun H a ns hl _ hH hS => ⟨a, ns, rfl, hS, hl, (fun p hp => by rw [List.mem_singleton.mp hp]; exact TabS.nil (hH _ (List.mem_singleton.mpr rfl))), fun _ => rfl⟩), fun base _ _ hTB => ?_⟩
  have TB := hTB (cR, PR) (List.mem_singleton.mpr rfl)
  have F0 : FnR P0 w K mg base CX0 2 f0 (spBase K) := base_fn lB cB
  have XN : Kd.TxtX P0 w K mg base "NoKind" CN "part" fIN := ⟨qN.oex, qN.iC, qN.tI, init_one (by decide +kernel) (by decide +kernel) (by decide +kernel) (by decide +kernel) (by decide +kernel) (by decide +kernel) (qN.iniT tB0 nB0 tp) n_super F0 (fun _ _ _ _ _ => rfl) (fun _ => rfl), PySem.W.mg_of X G qN.aC⟩
  have XG : Kd.TxtX P0 w K mg base "Gone" CG "tag" fIG := ⟨qG.oex, qG.iC, qG.tI, init_one (by decide +kernel) (by decide +kernel) (by decide +kernel) (by decide +kernel) (by decide +kernel) (by decide +kernel) (qG.iniT tB0 nB0 tp) n_super F0 (fun _ _ _ _ _ => rfl) (fun _ => rfl), PySem.W.mg_of X G qG.aC⟩
  have XU : Kd.TxtX P0 w K mg base "InUse" CU "tag" fIU := ⟨qU.oex, qU.iC, qU.tI, init_one (by decide +kernel) (by decide +kernel) (by decide +kernel) (by decide +kernel) (by decide +kernel) (by decide +kernel) (qU.iniT tB0 nB0 tp) n_super F0 (fun _ _ _ _ _ => rfl) (fun _ => rfl), PySem.W.mg_of X G qU.aC⟩
  have DNam : Def P0 w K mg base 1 "is_name" fNam _ ["thing"] (spB (O5 K) shD nmD) := ⟨ok_name FNam TK W, gNam, FNam.kp, bNam⟩
  have DUnl : Def P0 w K mg base 1 "are_unlike" fUnl _ ["names"] (spUnl K) := ⟨ok_unl FUnl TK, gUnl, FUnl.kp, bUnl⟩
  have DAmo : Def P0 w K mg base 1 "_is_among" fAmo _ ["thing", "names"] (spAmo K (O5 K)) := ⟨ok_amo FAmo TK W, gAmo, FAmo.kp, bAmo⟩
  have DRdg : Def P0 w K mg base 1 "_is_reading" fRdg _ ["thing"] (spB (O5 K) okR rdD) := ⟨ok_rdg FRdg TK W, gRdg, FRdg.kp, bRdg⟩
  have DGiv : Def P0 w K mg base 2 "_is_given" fGiv _ ["row"] (spB (O5 K) okG gvD) := ⟨ok_giv FGiv TK TS W DNam DAmo DRdg, gGiv, FGiv.kp, bGiv⟩
  have DGvs : Def P0 w K mg base 3 "_are_given" fGvs _ ["rows"] (spB (O5 K) okA gvsD) := ⟨ok_gvs FGvs TK W DGiv DUnl, gGvs, FGvs.kp, bGvs⟩
  have DMad : Def P0 w K mg base 2 "_is_made" fMad _ ["row", "plain"] (spMad K (O5 K)) := ⟨ok_mad FMad TK W DNam DAmo, gMad, FMad.kp, bMad⟩
  have DMds : Def P0 w K mg base 3 "_are_made" fMds _ ["rows", "given"] (spMds K (O5 K)) := ⟨ok_mds FMds TK TM W DMad DUnl, gMds, FMds.kp, bMds⟩
  have DHld : Def P0 w K mg base 2 "_are_held" fHld _ ["thing", "names"] (spHld K (O5 K)) := ⟨ok_hld FHld TK W DAmo DUnl, gHld, FHld.kp, bHld⟩
  have DWrg : Def P0 w K mg base 4 "_wrong_part" fWrg _ ["name", "given", "made", "single", "holds"] (spWrg (O5 K)) := ⟨ok_wrg FWrg TK W DNam DGvs DMds DAmo DHld, gWrg, FWrg.kp, bWrg⟩
  have GKI := ok_ki FKI TI XN DWrg
  have DInt : Def P0 w K mg base 1 "is_integer" fInt _ ["thing"] (spV K (fun _ => true) intD) := ⟨ok_int FInt TV, gInt, FInt.kp, bInt⟩
  have DTag : Def P0 w K mg base 2 "is_tag" fTag _ ["thing"] (spV K okTag tagD) := ⟨ok_tag FTag TV DNam DInt, gTag, FTag.kp, bTag⟩
  have DF5 : Def P0 w K mg base 5 "fresh" fFrs _ ["value"] (spFrs K 4) := ⟨ok_fresh FFrs TV gFrs bFrs 4, gFrs, FFrs.kp, bFrs⟩
  have DF6 : Def P0 w K mg base 6 "fresh" fFrs _ ["value"] (spFrs K 5) := ⟨ok_fresh FFrs TV gFrs bFrs 5, gFrs, FFrs.kp, bFrs⟩
  have DAC : Def P0 w K mg base 1 "_as_chosen" fAC _ ["value", "sort"] spAC := ⟨ok_ac FAC, gAC, FAC.kp, bAC⟩
  have DTI : Def P0 w K mg base 3 "_tags_in" fTI _ ["value"] (spTI K) := ⟨ok_ti FTI TV DTag, gTI, FTI.kp, bTI⟩
  have GWI := ok_wi (P := P0) (w := w) (base := base) FWI TW
  have GTh := ok_things FTh TW DF6
  have GRT := ok_rt (P := P0) (w := w) (base := base) FRT TW TI
  have GNT := ok_nt (P := P0) (w := w) (base := base) FNT TW
  have GMM := ok_mk FMM TW TI ⟨aNT, iNT, kNT⟩ GNT bNT
  have GSu := ok_su (P := P0) (w := w) (base := base) FSu TW TI
  have GMak := ok_make FMak TW TI DF5 DAC ⟨aRT, iRT, kRT⟩ GRT bRT ⟨aNT, iNT, kNT⟩ GNT bNT ⟨aMM, iMM, kMM⟩ GMM bMM ⟨aSu, iSu, kSu⟩ GSu bSu ne
  have GHas := ok_has FHas TW DTag
  have GRG := ok_rg FRG TW ⟨aHas, iHas, kHas⟩ GHas bHas XG
  have GHB := ok_hb FHB TW TI DTI
  have GDes := ok_des FDes TW TI ⟨aRG, iRG, kRG⟩ GRG bRG ⟨aHB, iHB, kHB⟩ GHB bHB XU ne
  have DW : Def P0 w K mg base 1 "_law_well" fWel _ ["_law_cell"] spWell := ⟨ok_well FWel TN, gWel, FWel.kp, bWel⟩
  have DD : Def P0 w K mg base 1 "_law_draw" fDrw _ ["_law_well_here", "_law_often"] spDraw := ⟨ok_draw FDrw TN, gDrw, FDrw.kp, bDrw⟩
  have D1 : Def P0 w K mg base 2 "_law_one" fOne _ ["_law_well_here", "_law_some"] (spOne K) := ⟨ok_one FOne TN FDrw bDrw gDrw, gOne, FOne.kp, bOne⟩
  have DK : Def P0 w K mg base 6 "_law_key" fKey _ ["_law_value"] (spKey K 5) := ⟨ok_key FKey TV gKey bKey 5, gKey, FKey.kp, bKey⟩
  have DMo : Def P0 w K mg base 1 "_law_model" fMo _ ["_law_tables_here"] spMo := ⟨ok_mo FMo, gMo, FMo.kp, bMo⟩
  have DLT : Def P0 w K mg base 1 "_law_tag" fLT _ NLT spLT := ⟨ok_lt FLT, gLT, FLT.kp, bLT⟩
  have DLA : Def P0 w K mg base 1 "_law_around" fLA _ ["_law_table", "_law_kept"] (spLA K) := ⟨ok_la FLA, gLA, FLA.kp, bLA⟩
  have DLM : Def P0 w K mg base 2 "_law_marks" fLM _ ["_law_m", "_law_kind", "_law_kept"] (spLM K) := ⟨ok_lm FLM DLT DLA, gLM, FLM.kp, bLM⟩
  have DTk : Def P0 w K mg base 1 "_law_taken" fTk _ PTk (spTk K) := ⟨ok_tk FTk, gTk, FTk.kp, bTk⟩
  have DRow : Def P0 w K mg base 7 "_law_row" fRow _ ["_law_m", "_law_tag_here"] (spRow K) := ⟨ok_row FRow DK, gRow, FRow.kp, bRow⟩
  have DLMk : Def P0 w K mg base 3 "_law_make" fLMk _ PLMk (spLMk K) := ⟨ok_lmk FLMk DTk DLT DLM, gLMk, FLMk.kp, bLMk⟩
  have DLI : Def P0 w K mg base 1 "_law_is_tag" fLI _ ["_law_value"] (spV K (fun _ => true) ltagD) := ⟨ok_li FLI TV, gLI, FLI.kp, bLI⟩
  have DLH : Def P0 w K mg base 2 "_law_holds" fLH _ ["_law_value", "_law_tag_here"] (spLH K) := ⟨ok_lh FLH TV DLI, gLH, FLH.kp, bLH⟩
  have DLD : Def P0 w K mg base 8 "_law_destroy" fLD _ PLD (spLD K) := ⟨ok_ld FLD DRow DLH, gLD, FLD.kp, bLD⟩
  have DAl : Def P0 w K mg base 8 "_law_alike" fAl _ PAl (spAl K cW) := ⟨ok_al FAl TL TW ⟨aTh, iTh, kTh⟩ GTh bTh DK, gAl, FAl.kp, bAl⟩
  have DTb : Def P0 w K mg base 3 "_law_tables" fTb _ ["_law_well_here"] (spTb K) := ⟨ok_tb FTb D1, gTb, FTb.kp, bTb⟩
  have DNm : Def P0 w K mg base 3 "_law_naming" fNm _ PNm (spNm K) := ⟨ok_nm FNm D1, gNm, FNm.kp, bNm⟩
  have HS : HasSaid K mg := ⟨fSai, ocSai, kVSai, dcSai, pmSai, cdSai, ctSai, anSai, odSai, slSai, lSai, cSai, kSai, gSai, bSai⟩
  have RT : TxtRt P0 w K mg base cW cK CT CG CU PR cR := ⟨ne, TW, TC, n_dict, n_range, TB, HS, ⟨_, _, DD⟩, ⟨_, _, D1⟩, ⟨_, _, DNm⟩, ⟨_, _, DK⟩, ⟨_, _, DLMk⟩, ⟨_, _, DLD⟩, ⟨_, _, DAl⟩, ⟨_, _, ⟨aMak, iMak, kMak⟩, GMak, bMak⟩, ⟨_, _, ⟨aDes, iDes, kDes⟩, GDes, bDes⟩⟩
  have R2 : TxtR2 P0 w K mg base cW cK CN CT CG CU PR cR := ⟨RT, IW, TI, ⟨_, _, DTb⟩, ⟨_, _, DMo⟩, ⟨_, _, _, ⟨mkcK, aKI, iKI, kccK⟩, GKI, kbK⟩, ⟨_, _, ⟨mkcW, aWI, iWI, kccW⟩, GWI, bWI⟩⟩
  have DC : Def P0 w K mg base 1 "_law_cell_at" fCel _ ["_law_script", "_law_k"] (spCell K) := ⟨ok_cell FCel n_len, gCel, FCel.kp, bCel⟩
  have DR : Def P0 w K mg base 9 "_law_right" fRgt _ ["_law_well_here"] (spRt PR) := ⟨ok_right lRgt cRgt R2, gRgt, FRgt.kp, bRgt⟩
  exact Kd.ok_law FLaw n_range DC DW DR
end Kd

open PySem PySem.W PyProof.Rows
set_option Elab.async false
set_option maxRecDepth 100000 in
set_option maxHeartbeats 0 in
theorem PySem.Challenge.cw_planfirst_k21_objects_that_are_held_holds : PySem.Challenge.rw_planfirst_k21_objects_that_are_held.Holds := by
  w_on; o_law; k_head; (case hw => w_witness2)
  k_fill
  refine Kd.walk_tab (l := PySem.Challenge.rw_planfirst_k21_objects_that_are_held) (n := 63) (k := 10) (x := "_law_script") (CX := fun _ => L2.CX0) "_law_right" rfl (by decide) rfl ⟨rfl, by decide, by decide⟩ ?R (fun w h Y => PySem.W.km_in_of Y) ?F (fun _ _ _ _ _ h => h)
  case R => decide +kernel
  case F =>
    intro w mg fa h KX G hmg tab
    refine' Kd.all_mk KX G hmg ?aB ?iB ?lB ?cB ?tB0 ?nB0 ?tp ?aNam ?lNam ?cNam ?kNam ?aUnl ?lUnl ?cUnl ?kUnl ?aWrg ?lWrg ?cWrg ?kWrg ?aAmo ?lAmo ?cAmo ?kAmo ?aGvs ?lGvs ?cGvs ?kGvs ?aGiv ?lGiv ?cGiv ?kGiv ?aRdg ?lRdg ?cRdg ?kRdg ?aMds ?lMds ?cMds ?kMds ?aMad ?lMad ?cMad ?kMad ?aHld ?lHld ?cHld ?kHld ?aInt ?lInt ?cInt ?kInt ?aTag ?lTag ?cTag ?kTag ?aFrs ?lFrs ?cFrs ?kFrs ?aAC ?lAC ?cAC ?kAC ?aTI ?lTI ?cTI ?kTI ?aCel ?lCel ?cCel ?kCel ?aWel ?lWel ?cWel ?kWel ?aDrw ?lDrw ?cDrw ?kDrw ?aOne ?lOne ?cOne ?kOne ?aKey ?lKey ?cKey ?kKey ?aMo ?lMo ?cMo ?kMo ?aLT ?lLT ?cLT ?kLT ?aLA ?lLA ?cLA ?kLA ?aLM ?lLM ?cLM ?kLM ?aTk ?lTk ?cTk ?kTk ?aRow ?lRow ?cRow ?kRow ?aLMk ?lLMk ?cLMk ?kLMk ?aLI ?lLI ?cLI ?kLI ?aLH ?lLH ?cLH ?kLH ?aLD ?lLD ?cLD ?kLD ?aSai ?lSai ?cSai ?kSai ?aAl ?lAl ?cAl ?kAl ?aTb ?lTb ?cTb ?kTb ?aNm ?lNm ?cNm ?kNm ?aRgt ?lRgt ?cRgt ?kRgt ?aLaw ?lLaw ?cLaw ?kLaw ?coR ?v11 ?nP ?z_isinstance ?z_len ?z_int ?z_bool ?z_str ?z_dict ?z_tuple ?z_list ?z_range ?z_super ?z_all ?z_set ?z_sorted ?aSo ?lSo ?aMo_ ?acK ?pgcK ?hdcK ?pocK ?sacK ?mkcK ?kccK ?ncK_name ?ncK_given ?ncK_made ?ncK_single ?ncK_holds ?ncK_make ?acW ?pgcW ?hdcW ?pocW ?sacW ?mkcW ?kccW ?ncW__kinds ?ncW__standing ?ncW__last ?hacW ?hmcW ?hn ?htk ?mT_str ?mT_tuple ?mT_dict ?mT_bool ?mT_int ?mT_list ?aWI ?iWI ?lWI ?cWI ?kWI ?aTh ?iTh ?lTh ?cTh ?kTh ?aMak ?iMak ?lMak ?cMak ?kMak ?aDes ?iDes ?lDes ?cDes ?kDes ?aHas ?iHas ?lHas ?cHas ?kHas ?aRG ?iRG ?lRG ?cRG ?kRG ?aRT ?iRT ?lRT ?cRT ?kRT ?aNT ?iNT ?lNT ?cNT ?kNT ?aMM ?iMM ?lMM ?cMM ?kMM ?aSu ?iSu ?lSu ?cSu ?kSu ?aHB ?iHB ?lHB ?cHB ?kHB ?aKI ?iKI ?lKI ?cKI ?kKI ?v1 ?v2
      ⟨?aCNx, ⟨_, _, _, _, _, _, _, _, _, _, _, _, _, _, ?xCNx⟩, ?saNx, ?gaNx, ?ggNx, ?exCNx, ?tyCNx, ?kCNx, ?hdCNx, ?clNx, ?stNx, ?iCNx, ?tINx, ⟨_, _, _, _, _, _, ?lkNx⟩, ?cdNx, ⟨_, _, _, ?ceNx⟩, ⟨_, _, _, _, _, _, ?coNx, ?cvNx, ?cfNx⟩, ?noNx, ?suNx⟩
      ⟨?aCTx, ⟨_, _, _, _, _, _, _, _, _, _, _, _, _, _, ?xCTx⟩, ?saTx, ?gaTx, ?ggTx, ?exCTx, ?tyCTx, ?kCTx, ?hdCTx, ?clTx, ?stTx, ?iCTx, ?tITx, ⟨_, _, _, _, _, _, ?lkTx⟩, ?cdTx, ⟨_, _, _, ?ceTx⟩, ⟨_, _, _, _, _, _, ?coTx, ?cvTx, ?cfTx⟩, ?noTx, ?suTx⟩
      ⟨?aCGx, ⟨_, _, _, _, _, _, _, _, _, _, _, _, _, _, ?xCGx⟩, ?saGx, ?gaGx, ?ggGx, ?exCGx, ?tyCGx, ?kCGx, ?hdCGx, ?clGx, ?stGx, ?iCGx, ?tIGx, ⟨_, _, _, _, _, _, ?lkGx⟩, ?cdGx, ⟨_, _, _, ?ceGx⟩, ⟨_, _, _, _, _, _, ?coGx, ?cvGx, ?cfGx⟩, ?noGx, ?suGx⟩
      ⟨?aCUx, ⟨_, _, _, _, _, _, _, _, _, _, _, _, _, _, ?xCUx⟩, ?saUx, ?gaUx, ?ggUx, ?exCUx, ?tyCUx, ?kCUx, ?hdCUx, ?clUx, ?stUx, ?iCUx, ?tIUx, ⟨_, _, _, _, _, _, ?lkUx⟩, ?cdUx, ⟨_, _, _, ?ceUx⟩, ⟨_, _, _, _, _, _, ?coUx, ?cvUx, ?cfUx⟩, ?noUx, ?suUx⟩ ?sGT ?sUT ?sGG ?sUG ?sUU tab
    (case aB => k_is)
    (case iB => k_is)
    (case lB => k_is)
    (case cB => k_is)
    (case tB0 => k_is)
    (case nB0 => k_is)
    (case tp => k_is)
    (case aNam => k_is)
    (case lNam => k_is)
    (case cNam => k_is)
    (case kNam => k_is)
    (case aUnl => k_is)
    (case lUnl => k_is)
    (case cUnl => k_is)
    (case kUnl => k_is)
    (case aWrg => k_is)
    (case lWrg => k_is)
    (case cWrg => k_is)
    (case kWrg => k_is)
    (case aAmo => k_is)
    (case lAmo => k_is)
    (case cAmo => k_is)
    (case kAmo => k_is)
    (case aGvs => k_is)
    (case lGvs => k_is)
    (case cGvs => k_is)
    (case kGvs => k_is)
    (case aGiv => k_is)
    (case lGiv => k_is)
    (case cGiv => k_is)
    (case kGiv => k_is)
    (case aRdg => k_is)
    (case lRdg => k_is)
    (case cRdg => k_is)
    (case kRdg => k_is)
    (case aMds => k_is)
    (case lMds => k_is)
    (case cMds => k_is)
    (case kMds => k_is)
    (case aMad => k_is)
    (case lMad => k_is)
    (case cMad => k_is)
    (case kMad => k_is)
    (case aHld => k_is)
    (case lHld => k_is)
    (case cHld => k_is)
    (case kHld => k_is)
    (case aInt => k_is)
    (case lInt => k_is)
    (case cInt => k_is)
    (case kInt => k_is)
    (case aTag => k_is)
    (case lTag => k_is)
    (case cTag => k_is)
    (case kTag => k_is)
    (case aFrs => k_is)
    (case lFrs => k_is)
    (case cFrs => k_is)
    (case kFrs => k_is)
    (case aAC => k_is)
    (case lAC => k_is)
    (case cAC => k_is)
    (case kAC => k_is)
    (case aTI => k_is)
    (case lTI => k_is)
    (case cTI => k_is)
    (case kTI => k_is)
    (case aCel => k_is)
    (case lCel => k_is)
    (case cCel => k_is)
    (case kCel => k_is)
    (case aWel => k_is)
    (case lWel => k_is)
    (case cWel => k_is)
    (case kWel => k_is)
    (case aDrw => k_is)
    (case lDrw => k_is)
    (case cDrw => k_is)
    (case kDrw => k_is)
    (case aOne => k_is)
    (case lOne => k_is)
    (case cOne => k_is)
    (case kOne => k_is)
    (case aKey => k_is)
    (case lKey => k_is)
    (case cKey => k_is)
    (case kKey => k_is)
    (case aMo => k_is)
    (case lMo => k_is)
    (case cMo => k_is)
    (case kMo => k_is)
    (case aLT => k_is)
    (case lLT => k_is)
    (case cLT => k_is)
    (case kLT => k_is)
    (case aLA => k_is)
    (case lLA => k_is)
    (case cLA => k_is)
    (case kLA => k_is)
    (case aLM => k_is)
    (case lLM => k_is)
    (case cLM => k_is)
    (case kLM => k_is)
    (case aTk => k_is)
    (case lTk => k_is)
    (case cTk => k_is)
    (case kTk => k_is)
    (case aRow => k_is)
    (case lRow => k_is)
    (case cRow => k_is)
    (case kRow => k_is)
    (case aLMk => k_is)
    (case lLMk => k_is)
    (case cLMk => k_is)
    (case kLMk => k_is)
    (case aLI => k_is)
    (case lLI => k_is)
    (case cLI => k_is)
    (case kLI => k_is)
    (case aLH => k_is)
    (case lLH => k_is)
    (case cLH => k_is)
    (case kLH => k_is)
    (case aLD => k_is)
    (case lLD => k_is)
    (case cLD => k_is)
    (case kLD => k_is)
    (case aSai => k_is)
    (case lSai => k_is)
    (case cSai => k_is)
    (case kSai => k_is)
    (case aAl => k_is)
    (case lAl => k_is)
    (case cAl => k_is)
    (case kAl => k_is)
    (case aTb => k_is)
    (case lTb => k_is)
    (case cTb => k_is)
    (case kTb => k_is)
    (case aNm => k_is)
    (case lNm => k_is)
    (case cNm => k_is)
    (case kNm => k_is)
    (case aRgt => k_is)
    (case lRgt => k_is)
    (case cRgt => k_is)
    (case kRgt => k_is)
    (case aLaw => k_is)
    (case lLaw => k_is)
    (case cLaw => k_is)
    (case kLaw => k_is)
    (case coR => (apply Eq.trans; k_is; rfl))
    (case v11 => rfl)
    (case nP => first | k_is | rfl | (apply Eq.trans; k_is; rfl) | decide +kernel)
    (case z_isinstance => k_is)
    (case z_len => k_is)
    (case z_int => k_is)
    (case z_bool => k_is)
    (case z_str => k_is)
    (case z_dict => k_is)
    (case z_tuple => k_is)
    (case z_list => k_is)
    (case z_range => k_is)
    (case z_super => k_is)
    (case z_all => k_is)
    (case z_set => k_is)
    (case z_sorted => k_is)
    (case aSo => k_is)
    (case lSo => (apply Eq.trans; k_is; rfl))
    (case aMo_ => k_is)
    (case acK => k_is)
    (case pgcK => k_is)
    (case hdcK => k_is)
    (case pocK => k_is)
    (case sacK => k_is)
    (case mkcK => k_is)
    (case kccK => k_is)
    (case ncK_name => k_is)
    (case ncK_given => k_is)
    (case ncK_made => k_is)
    (case ncK_single => k_is)
    (case ncK_holds => k_is)
    (case ncK_make => k_is)
    (case acW => k_is)
    (case pgcW => k_is)
    (case hdcW => k_is)
    (case pocW => k_is)
    (case sacW => k_is)
    (case mkcW => k_is)
    (case kccW => k_is)
    (case ncW__kinds => k_is)
    (case ncW__standing => k_is)
    (case ncW__last => k_is)
    (case hacW => k_is)
    (case hmcW => k_is)
    (case hn => k_is)
    (case htk => k_is)
    (case mT_str => k_is)
    (case mT_tuple => k_is)
    (case mT_dict => k_is)
    (case mT_bool => k_is)
    (case mT_int => k_is)
    (case mT_list => k_is)
    (case aWI => k_is)
    (case iWI => k_is)
    (case lWI => k_is)
    (case cWI => k_is)
    (case kWI => k_is)
    (case aTh => k_is)
    (case iTh => k_is)
    (case lTh => k_is)
    (case cTh => k_is)
    (case kTh => k_is)
    (case aMak => k_is)
    (case iMak => k_is)
    (case lMak => k_is)
    (case cMak => k_is)
    (case kMak => k_is)
    (case aDes => k_is)
    (case iDes => k_is)
    (case lDes => k_is)
    (case cDes => k_is)
    (case kDes => k_is)
    (case aHas => k_is)
    (case iHas => k_is)
    (case lHas => k_is)
    (case cHas => k_is)
    (case kHas => k_is)
    (case aRG => k_is)
    (case iRG => k_is)
    (case lRG => k_is)
    (case cRG => k_is)
    (case kRG => k_is)
    (case aRT => k_is)
    (case iRT => k_is)
    (case lRT => k_is)
    (case cRT => k_is)
    (case kRT => k_is)
    (case aNT => k_is)
    (case iNT => k_is)
    (case lNT => k_is)
    (case cNT => k_is)
    (case kNT => k_is)
    (case aMM => k_is)
    (case iMM => k_is)
    (case lMM => k_is)
    (case cMM => k_is)
    (case kMM => k_is)
    (case aSu => k_is)
    (case iSu => k_is)
    (case lSu => k_is)
    (case cSu => k_is)
    (case kSu => k_is)
    (case aHB => k_is)
    (case iHB => k_is)
    (case lHB => k_is)
    (case cHB => k_is)
    (case kHB => k_is)
    (case aKI => k_is)
    (case iKI => k_is)
    (case lKI => k_is)
    (case cKI => k_is)
    (case kKI => k_is)
    (case v1 => k_is)
    (case v2 => k_is)
    (case aCNx => k_is)
    (case xCNx => (apply Eq.trans; k_is; rfl))
    (case saNx => k_is)
    (case gaNx => k_is)
    (case ggNx => k_is)
    (case exCNx => k_is)
    (case tyCNx => k_is)
    (case kCNx => k_is)
    (case hdCNx => k_is)
    (case clNx => k_is)
    (case stNx => k_is)
    (case iCNx => k_is)
    (case lkNx => (apply Eq.trans; k_is; rfl))
    (case tINx => k_is)
    (case cdNx => k_is)
    (case ceNx => (apply Eq.trans; k_is; rfl))
    (case coNx => (apply Eq.trans; k_is; rfl))
    (case cvNx => rfl)
    (case cfNx => decide +kernel)
    (case noNx => (intro f hf; (rcases List.mem_cons.mp hf with rfl | hf; k_is); (rcases List.mem_cons.mp hf with rfl | hf; k_is); exact nomatch hf))
    (case suNx => ks_is)
    (case aCTx => k_is)
    (case xCTx => (apply Eq.trans; k_is; rfl))
    (case saTx => k_is)
    (case gaTx => k_is)
    (case ggTx => k_is)
    (case exCTx => k_is)
    (case tyCTx => k_is)
    (case kCTx => k_is)
    (case hdCTx => k_is)
    (case clTx => k_is)
    (case stTx => k_is)
    (case iCTx => k_is)
    (case lkTx => (apply Eq.trans; k_is; rfl))
    (case tITx => k_is)
    (case cdTx => k_is)
    (case ceTx => (apply Eq.trans; k_is; rfl))
    (case coTx => (apply Eq.trans; k_is; rfl))
    (case cvTx => rfl)
    (case cfTx => decide +kernel)
    (case noTx => (intro f hf; (rcases List.mem_cons.mp hf with rfl | hf; k_is); (rcases List.mem_cons.mp hf with rfl | hf; k_is); exact nomatch hf))
    (case suTx => ks_is)
    (case aCGx => k_is)
    (case xCGx => (apply Eq.trans; k_is; rfl))
    (case saGx => k_is)
    (case gaGx => k_is)
    (case ggGx => k_is)
    (case exCGx => k_is)
    (case tyCGx => k_is)
    (case kCGx => k_is)
    (case hdCGx => k_is)
    (case clGx => k_is)
    (case stGx => k_is)
    (case iCGx => k_is)
    (case lkGx => (apply Eq.trans; k_is; rfl))
    (case tIGx => k_is)
    (case cdGx => k_is)
    (case ceGx => (apply Eq.trans; k_is; rfl))
    (case coGx => (apply Eq.trans; k_is; rfl))
    (case cvGx => rfl)
    (case cfGx => decide +kernel)
    (case noGx => (intro f hf; (rcases List.mem_cons.mp hf with rfl | hf; k_is); (rcases List.mem_cons.mp hf with rfl | hf; k_is); exact nomatch hf))
    (case suGx => ks_is)
    (case aCUx => k_is)
    (case xCUx => (apply Eq.trans; k_is; rfl))
    (case saUx => k_is)
    (case gaUx => k_is)
    (case ggUx => k_is)
    (case exCUx => k_is)
    (case tyCUx => k_is)
    (case kCUx => k_is)
    (case hdCUx => k_is)
    (case clUx => k_is)
    (case stUx => k_is)
    (case iCUx => k_is)
    (case lkUx => (apply Eq.trans; k_is; rfl))
    (case tIUx => k_is)
    (case cdUx => k_is)
    (case ceUx => (apply Eq.trans; k_is; rfl))
    (case coUx => (apply Eq.trans; k_is; rfl))
    (case cvUx => rfl)
    (case cfUx => decide +kernel)
    (case noUx => (intro f hf; (rcases List.mem_cons.mp hf with rfl | hf; k_is); (rcases List.mem_cons.mp hf with rfl | hf; k_is); exact nomatch hf))
    (case suUx => ks_is)
    (case sGT => k_is)
    (case sUT => k_is)
    (case sGG => k_is)
    (case sUG => k_is)
    (case sUU => k_is)

